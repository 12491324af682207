"""[5.4], [5.5], [5.8], [5.9] and the interface of coveredday.fills."""

import random
import unittest
from itertools import combinations

from coveredday.account import Account
from coveredday.coverjudge import cover_fault
from coveredday.errors import BadPrices, OtherGoods
from coveredday.fills import WorstFill, equity, is_covered, least_cancels, slack, worst_fill
from coveredday.orders import Order
from coveredday.parcels import Parcels
from coveredday.position import Position
from coveredday.tables import Table
from tests.common import THINGS, Promises, moves_within
from tests.test_account import FLAT, HUGE, PARCELS, all_fills, buy, contents, random_account, sell
from tests.test_pairing import OTHERS
from tests.test_position import is_number_row
from tests.test_tables import GOODS, example, random_table


def parcels_of(goods):
    """Parcels of these goods with one parcel."""
    return Parcels(goods, [("mix", [(good, 2 - 3 * index) for index, good in enumerate(goods)])])


def worst_equity(account, taken, prices, moves):
    """The least equity behind a fill after any of the moves, worked out move by move."""
    cash, position = account.filled(taken)
    return cash + min(sum(count * (price + change) for count, price, change in zip(position.counts, prices, move))
                      for move in moves)


def small_cases(seed, number, most_orders=3, most_count=3):
    """Accounts with prices, a table and all moves within it."""
    chance = random.Random(seed)
    for index in range(number):
        table = random_table(chance, index % 2 + 1)
        account = random_account(chance, parcels_of(table.goods), most_orders, most_count)
        yield account, [chance.randint(-5, 5) for _ in table.goods], table, list(moves_within(table))


class TestEquity(Promises):
    def test_equity_and_slack(self):
        position = Position(GOODS, (2, -1))
        self.same(equity(10, position, (3, 4)), 12)
        self.same(slack(10, position, [3, 4], example()), 9)
        self.same(equity(-HUGE, Position(GOODS, (HUGE, 0)), (HUGE, 1)), HUGE ** 2 - HUGE)
        self.same(slack(0, FLAT, (HUGE, -HUGE), example()), 0)

    def test_slack_is_the_least_equity_after_a_move(self):
        for account, prices, table, moves in small_cases(52, 60, 0):
            got = slack(account.cash, account.position, prices, table)
            self.same(got, worst_equity(account, (), prices, moves))

    def test_wrong_prices_come_first_and_then_other_goods(self):
        account = Account(0, FLAT, [buy("oil", 1, 1)], parcels=PARCELS)
        calls = (lambda prices, table: slack(0, FLAT, prices, table),
                 lambda prices, table: worst_fill(account, prices, table),
                 lambda prices, table: is_covered(account, prices, table),
                 lambda prices, table: least_cancels(account, prices, table))
        other = Table.full(("tin",), 1)
        for thing in THINGS + ((1, 2, 3), [1, None], (True, 1)):
            if not is_number_row(thing, 2):
                self.fails(BadPrices, (), equity, 0, FLAT, thing)
                for call in calls:
                    self.fails(BadPrices, (), call, thing, other)
                    self.fails(BadPrices, (), call, thing, example())
        for goods in OTHERS:
            for call in calls:
                self.fails(OtherGoods, (), call, (1, 2), Table.full(goods, 1))


class TestWorstFill(Promises):
    def test_attributes(self):
        worst = WorstFill(-3, [1, 0], "cover")
        self.same((worst.slack, worst.taken, worst.cover), (-3, (1, 0), "cover"))

    def test_against_all_fills_and_all_moves(self):
        for account, prices, table, moves in small_cases(53, 120):
            before = contents(account)
            worst = worst_fill(account, prices, table)
            equities = {taken: worst_equity(account, taken, prices, moves) for taken in all_fills(account)}
            self.same(worst.slack, min(equities.values()))
            first = [taken for taken in account.corners() if equities[taken] == worst.slack][0]
            self.same(worst.taken, first)
            self.same(is_covered(account, prices, table), worst.slack >= 0)
            cash, position = account.filled(worst.taken)
            self.same(cover_fault(position, table, worst.cover), None)
            moved = [price + change for price, change in zip(prices, worst.cover.move)]
            self.same(equity(cash, position, moved), worst.slack)
            self.same((contents(account), tuple(prices)), (before, tuple(prices)))

    def test_a_slack_of_just_nothing(self):
        table = Table.full(("oil",), 4)
        for cash, expected in ((8, True), (7, False), (9, True)):
            account = Account(cash, Position.flat(("oil",)), [buy("oil", 2, 10)], parcels=Parcels(("oil",)))
            self.same(is_covered(account, (10,), table), expected)
            self.same(worst_fill(account, (10,), table).slack, cash - 8)

    def test_without_orders(self):
        worst = worst_fill(Account(1, Position(GOODS, (2, -1)), parcels=PARCELS), (3, 4), example())
        self.same((worst.slack, worst.taken, worst.cover.amount), (0, (), 3))

    def test_the_first_of_several_worst_corners(self):
        table = Table.full(("oil",), 0)
        orders = [buy("oil", 3, 5), sell("oil", 2, 5), buy("oil", 1, 6)]
        account = Account(9, Position.flat(("oil",)), orders, parcels=Parcels(("oil",)))
        self.same((worst_fill(account, (5,), table).taken, worst_fill(account, (5,), table).slack), ((0, 0, 1), 8))
        self.same(worst_fill(account.without((2,)), (5,), table).taken, (0, 0))

    def test_great_numbers(self):
        orders = [buy("mix", 10 ** 6, -10 ** 12), sell("rye", 10 ** 6, 10 ** 12), sell("oil", 1, -10 ** 12)]
        account = Account(HUGE, Position(GOODS, (HUGE, -HUGE)), orders, parcels=PARCELS)
        table = Table(GOODS, [(up, down, HUGE) for up, down, _ in example().entries], cap=HUGE)
        prices = (HUGE, -HUGE)
        slacks = [slack(*account.filled(taken), prices, table) for taken in account.corners()]
        self.same(worst_fill(account, prices, table).slack, min(slacks))

    def test_five_orders(self):
        chance = random.Random(54)
        for _ in range(10):
            table = random_table(chance, 3)
            parcels = parcels_of(table.goods)
            orders = [Order("ann", chance.choice(parcels.things), chance.choice(("buy", "sell")),
                            chance.choice((1, 10 ** 6)), chance.randint(-9, 9)) for _ in range(5)]
            account = Account(0, Position.flat(table.goods), orders, parcels=parcels)
            slacks = [slack(*account.filled(taken), (1, 2, 3), table) for taken in account.corners()]
            worst = worst_fill(account, (1, 2, 3), table)
            self.same((worst.slack, worst.taken), (min(slacks), list(account.corners())[slacks.index(min(slacks))]))


class TestLeastCancels(Promises):
    def expected(self, account, prices, moves):
        """The least sets, by looking at all sets of orders and all fills."""
        indices = range(len(account.orders))
        enough = []
        for size in range(len(account.orders) + 1):
            for gone in combinations(indices, size):
                left = account.without(gone)
                if min(worst_equity(left, taken, prices, moves) for taken in all_fills(left)) >= 0:
                    enough.append(gone)
        return tuple(gone for gone in enough if not any(set(other) < set(gone) for other in enough))

    def test_against_all_sets(self):
        seen = set()
        for account, prices, table, moves in small_cases(55, 150, 4, 2):
            found = least_cancels(account, prices, table)
            self.same(found, self.expected(account, prices, moves))
            seen.add(len(found))
        self.assertLessEqual({0, 1, 2}, seen)

    def test_covered_and_never_covered(self):
        table = Table.full(("oil",), 4)
        parcels = Parcels(("oil",))
        orders = [buy("oil", 1, 10)] * 5
        covered = Account(20, Position.flat(("oil",)), orders, parcels=parcels)
        self.same(least_cancels(covered, (10,), table), ((),))
        self.same(least_cancels(Account(-1, Position.flat(("oil",)), orders, parcels=parcels), (10,), table), ())
        self.same(least_cancels(Account(0, Position.flat(("oil",)), parcels=parcels), (10,), table), ((),))
        self.same(least_cancels(Account(-1, Position.flat(("oil",)), parcels=parcels), (10,), table), ())

    def test_by_size_and_then_as_tuples(self):
        table = Table.full(("oil",), 1)
        orders = [buy("oil", 3, 0), buy("oil", 2, 0), buy("oil", 2, 0), buy("oil", 2, 0), buy("oil", 1, 0)]
        account = Account(6, Position.flat(("oil",)), orders, parcels=Parcels(("oil",)))
        self.same(least_cancels(account, (0,), table), ((0, 1), (0, 2), (0, 3), (0, 4), (1, 2), (1, 3), (2, 3)))
        orders = [buy("oil", 2, 0), buy("oil", 4, 0), buy("oil", 2, 0), buy("oil", 5, 0), buy("oil", 1, 0)]
        account = Account(10, Position.flat(("oil",)), orders, parcels=Parcels(("oil",)))
        self.same(least_cancels(account, (0,), table), ((1,), (3,), (0, 2)))


class TestFacts(Promises):
    def test_filling_never_hurts(self):
        for account, prices, table, _ in small_cases(56, 40):
            least = worst_fill(account, prices, table).slack
            for taken in all_fills(account):
                self.assertGreaterEqual(worst_fill(account.after(taken), prices, table).slack, least)

    def test_one_order_can_need_more_than_both(self):
        account = Account(4, Position.flat(("oil",)), [buy("oil", 1, 0), sell("oil", 1, 0)], parcels=Parcels(("oil",)))
        table = Table.full(("oil",), 4)
        self.same([worst_fill(account.after(taken), (0,), table).slack for taken in ((0, 0), (1, 0), (1, 1))],
                  [0, 0, 4])

    def test_cancelling_more_never_hurts(self):
        for account, prices, table, _ in small_cases(57, 40):
            slacks = [worst_fill(account.without(range(count)), prices, table).slack
                      for count in range(len(account.orders) + 1)]
            self.assertEqual(slacks, sorted(slacks))

    def test_no_answer_depends_on_what_was_asked_before(self):
        cases = list(small_cases(58, 10))
        first = [worst_fill(account, prices, table).slack for account, prices, table, _ in cases]
        again = [worst_fill(account, prices, table).slack for account, prices, table, _ in cases[::-1]]
        self.same(again[::-1], first)


if __name__ == "__main__":
    unittest.main()
