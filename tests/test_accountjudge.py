"""[5.6] and the interface of coveredday.accountjudge."""

import random
import unittest
from itertools import product

from coveredday.account import Account
from coveredday.accountjudge import Covered, Lacking, certificate, covered_fault, lacking_fault
from coveredday.errors import BadPrices, OtherGoods
from coveredday.fills import worst_fill
from coveredday.orders import Order
from coveredday.pairing import cost_of
from coveredday.parcels import Parcels
from coveredday.position import Position
from coveredday.tables import Table
from tests.common import DEEP, THINGS, Promises, moves_within
from tests.test_account import FLAT, HUGE, PARCELS, all_fills, buy, sell
from tests.test_fills import small_cases
from tests.test_pairing import OTHERS
from tests.test_position import is_number_row
from tests.test_tables import GOODS, example

OIL = Table.full(("oil",), 4)


def oil_account(cash, *orders, pieces=0):
    return Account(cash, Position(("oil",), (pieces,)), orders, parcels=Parcels(("oil",)))


class TestClasses(Promises):
    def test_they_keep_their_arguments(self):
        for thing in THINGS:
            kept = tuple(thing) if isinstance(thing, list) else thing
            self.same(Covered(thing).pairings, kept)
            self.same((Lacking(thing, None).taken, Lacking(None, thing).move), (kept, kept))
        self.same(Covered([[["oil", "cash", 1]], DEEP]).pairings, ([["oil", "cash", 1]], DEEP))
        self.same((Covered(()).is_covered, Lacking((), ()).is_covered), (True, False))

    def test_no_list_is_kept(self):
        inner = [["oil", "cash", 1]]
        outer, taken, move = [inner], [1], [2]
        covered, lacking = Covered(outer), Lacking(taken, move)
        inner[0][2] = 9
        inner.append(None)
        for rows in (outer, taken, move):
            rows.append(None)
        self.same(covered.pairings, ([["oil", "cash", 1]],))
        within = Covered(((inner,),))
        inner.clear()
        self.same(within.pairings, (([["oil", "cash", 9], None],),))
        self.same((lacking.taken, lacking.move), ((1,), (2,)))


class TestCertificates(Promises):
    def test_they_have_no_fault_and_are_of_the_right_kind(self):
        for account, prices, table, _ in small_cases(61, 120):
            told, worst = certificate(account, prices, table), worst_fill(account, prices, table)
            self.same(told.is_covered, worst.slack >= 0)
            if told.is_covered:
                self.assertIs(type(told), Covered)
                self.assertIsInstance(told.pairings, tuple)
                self.same(covered_fault(account, prices, table, told), None)
            else:
                self.assertIs(type(told), Lacking)
                self.same((told.taken, lacking_fault(account, prices, table, told)), (worst.taken, None))

    def test_great_numbers_and_five_orders(self):
        chance = random.Random(62)
        for number in range(12):
            orders = [Order("ann", chance.choice(PARCELS.things), chance.choice(("buy", "sell")), 10 ** 6,
                            chance.randint(-10 ** 12, 10 ** 12)) for _ in range(5)]
            account = Account(HUGE * (number % 3 - 1), Position(GOODS, (5, 6)), orders, parcels=PARCELS)
            told = certificate(account, (7, -8), example())
            judge = covered_fault if told.is_covered else lacking_fault
            self.same(judge(account, (7, -8), example(), told), None)
            if told.is_covered:
                self.same(len(told.pairings), 32)

    def test_an_account_has_no_two_kinds_of_certificates(self):
        for account, prices, table, moves in small_cases(63, 20, 2, 2):
            told = certificate(account, prices, table)
            if told.is_covered:
                for taken, move in product(all_fills(account), moves):
                    self.assertIsNotNone(lacking_fault(account, prices, table, Lacking(taken, move)))

    def test_errors(self):
        account = Account(0, FLAT, [buy("oil", 1, 1)], parcels=PARCELS)
        calls = (lambda prices, table: certificate(account, prices, table),
                 lambda prices, table: covered_fault(account, prices, table, Covered(None)),
                 lambda prices, table: lacking_fault(account, prices, table, Lacking(None, None)))
        for call in calls:
            for thing in THINGS:
                if not is_number_row(thing, 2):
                    self.fails(BadPrices, (), call, thing, OIL)
            for goods in OTHERS:
                self.fails(OtherGoods, (), call, [1, 2], Table.full(goods, 1))


class TestCoveredFault(Promises):
    account = oil_account(10, buy("oil", 1, 10), sell("oil", 2, 9))
    right = ((), (("oil", "cash", 1),), (("cash", "oil", 2),), (("cash", "oil", 1),))

    def fault(self, pairings, expected, cash=10):
        account = oil_account(cash, *self.account.orders)
        for told in (pairings, list(pairings) if isinstance(pairings, tuple) else pairings):
            self.same(covered_fault(account, (10,), OIL, Covered(told)), expected)

    def test_right_ones(self):
        self.fault(self.right, None)
        self.fault([[list(pair) for pair in pairs] for pairs in self.right], None, 11)
        self.fault(((), (("oil", "cash", 1),), (("cash", "oil", 1), ("cash", "oil", 1)), (("cash", "oil", 1),)), None, 99)

    def test_word_pairings(self):
        for thing in THINGS + (self.right[:3], self.right + ((),)):
            if not (isinstance(thing, (list, tuple)) and len(thing) == 4):
                self.fault(thing, ("pairings",))

    def test_word_pairs(self):
        for thing in THINGS:
            if thing not in ([], ()):
                word = "asset" if thing == (("oil", "rye", 1),) else "pairs"
                self.fault((thing,) + self.right[1:], ("pairs", 0, word))
            self.fault(self.right[:3] + ((thing,),), ("pairs", 3, "asset" if thing == [1, 2, 3] else "pairs"))
        self.fault(((),) * 4, ("pairs", 1, "sum"))
        self.fault(self.right[:2] + (None, None), ("pairs", 2, "pairs"))
        self.fault(self.right[:1] + ((("oil", "cash", True),),) + self.right[2:], ("pairs", 1, "count"))

    def test_word_cost(self):
        # Behind the corners the equity is the cash, and 2 less where oil is sold; 0, 4, 8 and 4 are asked for.
        for cash in range(-3, 14):
            wants = [0 - cash, 4 - cash, 8 - (cash - 2), 4 - (cash - 2)]
            first = [("cost", k, lacking) for k, lacking in enumerate(wants) if lacking > 0]
            self.fault(self.right, first[0] if first else None, cash)

    def test_corner_by_corner(self):
        self.fault(self.right[:3] + (None,), ("cost", 1, 1), 3)
        self.fault(((), None) + self.right[2:], ("pairs", 1, "pairs"), 3)
        self.fault(((), None) + self.right[2:], ("cost", 0, 1), -1)

    def test_a_dear_pairing_that_the_equity_pays_is_right(self):
        account = Account(100, Position(GOODS, (2, -1)), parcels=PARCELS)
        pairs = (("oil", "cash", 1), ("oil", "rye", 1))
        self.same(cost_of(pairs, example()), 3)
        for cash, expected in ((3, None), (2, ("cost", 0, 1)), (-HUGE, ("cost", 0, HUGE + 3))):
            account = Account(cash, Position(GOODS, (2, -1)), parcels=PARCELS)
            self.same(covered_fault(account, (0, 0), example(), Covered([pairs])), expected)


class TestLackingFault(Promises):
    account = oil_account(3, buy("oil", 2, 10))

    def fault(self, taken, move, expected, cash=3):
        account = oil_account(cash, *self.account.orders)
        self.same(lacking_fault(account, (10,), OIL, Lacking(taken, move)), expected)

    def test_right_ones(self):
        self.fault((2,), (-2,), None)
        self.fault([1], [-4], None)
        self.fault((0,), (0,), None, -1)

    def test_word_taken(self):
        for thing in THINGS:
            if not isinstance(thing, (list, tuple)):
                self.fault(thing, None, ("taken", None))
            if thing not in (0, 1) or isinstance(thing, bool):
                self.fault((thing,), (-9, 9), ("taken", 0))
        self.fault((3,), None, ("taken", 0))
        self.fault((), None, ("taken", 0))
        self.fault((1, 1), None, ("taken", 1))

    def test_word_move(self):
        for thing in THINGS + ((-4, 0), [], (None,)):
            if not is_number_row(thing, 1):
                self.fault((2,), thing, ("move",))
                self.fault((3,), thing, ("taken", 0))

    def test_word_pair(self):
        self.fault((2,), (-5,), ("pair", "cash", "oil"))
        self.fault((2,), (5,), ("pair", "oil", "cash"))
        self.fault((2,), (HUGE,), ("pair", "oil", "cash"))
        account = Account(-1, FLAT, parcels=PARCELS)
        for move, pair in (((-3, 0), ("cash", "oil")), ((4, 5), ("oil", "cash")), ((0, 2), ("rye", "oil")),
                           ((3, 1), ("oil", "rye")), ((0, -9), ("cash", "rye"))):
            self.same(lacking_fault(account, (0, 0), example(), Lacking((), move)), ("pair",) + pair)

    def test_word_equity(self):
        for taken, change in product(range(3), range(-4, 5)):
            amount = 3 + taken * change
            self.fault((taken,), (change,), ("equity", amount) if amount >= 0 else None)
        self.fault((0,), (-4,), ("equity", 0), 0)

    def test_all_of_small_ones(self):
        for account, prices, table, moves in small_cases(64, 15, 2, 2):
            for taken, move in product(all_fills(account), moves):
                cash, position = account.filled(taken)
                amount = cash + position.worth([price + change for price, change in zip(prices, move)])
                got = lacking_fault(account, prices, table, Lacking(list(taken), list(move)))
                self.same(got, None if amount < 0 else ("equity", amount))
            self.assertEqual(moves, list(moves_within(table)))


if __name__ == "__main__":
    unittest.main()
