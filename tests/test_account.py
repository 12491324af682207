"""[5.1], [5.2], [5.3] and the interface of coveredday.account."""

import random
import unittest
from itertools import product

from coveredday.account import Account
from coveredday.errors import BadAccount, BadFill
from coveredday.orders import Order
from coveredday.parcels import Parcels
from coveredday.position import Position
from tests.common import THINGS, Promises, word_of

GOODS = ("oil", "rye")
PARCELS = Parcels(GOODS, [("mix", [("oil", 2), ("rye", -1)])])
FLAT = Position.flat(GOODS)
HUGE = 10 ** 40


def buy(thing, count, limit, member="ann"):
    return Order(member, thing, "buy", count, limit)


def sell(thing, count, limit, member="ann"):
    return Order(member, thing, "sell", count, limit)


def contents(account):
    """All that an account tells of itself, for comparisons."""
    orders = [tuple(vars(order).values()) for order in account.orders]
    return account.cash, account.position.counts, orders


def random_account(chance, parcels, most_orders=3, most_count=3):
    """An account with small numbers."""
    orders = [Order("ann", chance.choice(parcels.things), chance.choice(("buy", "sell")),
                    chance.randint(1, most_count), chance.randint(-4, 4)) for _ in range(chance.randint(0, most_orders))]
    position = Position(parcels.goods, [chance.randint(-2, 2) for _ in parcels.goods])
    return Account(chance.randint(0, 12), position, orders, parcels=parcels)


def all_fills(account):
    return list(product(*[range(order.count + 1) for order in account.orders]))


class TestMaking(Promises):
    def test_attributes(self):
        orders = [buy("oil", 1, 2), sell("mix", 3, -4)]
        account = Account(-5, Position(GOODS, (1, -1)), orders, parcels=PARCELS)
        orders.append(buy("rye", 1, 1))
        self.assertIsInstance(account.orders, tuple)
        self.assertEqual(account.orders, (buy("oil", 1, 2), sell("mix", 3, -4)))
        self.assertEqual((account.position, account.parcels), (Position(GOODS, (1, -1)), PARCELS))
        self.same(account.cash, -5)

    def test_without_orders(self):
        for account in (Account(0, FLAT, parcels=PARCELS), Account(0, FLAT, [], parcels=PARCELS)):
            self.same(account.orders, ())

    def test_cash_of_any_size(self):
        for cash in (HUGE, -HUGE, 0):
            self.same(Account(cash, FLAT, parcels=PARCELS).cash, cash)

    def test_orders_of_both_bounds(self):
        orders = [buy("oil", 1, -10 ** 12), sell("oil", 10 ** 6, 10 ** 12)]
        self.assertEqual(list(Account(0, FLAT, orders, parcels=PARCELS).orders), orders)
        many = [buy("oil", number, 0) for number in range(1, 6)]
        self.assertEqual(list(Account(0, FLAT, many, parcels=PARCELS).orders), many)

    def word(self, expected, cash=0, position=FLAT, orders=(), parcels=PARCELS):
        if expected is None:
            Account(cash, position, orders, parcels=parcels)
        else:
            self.fails(BadAccount, (expected,), Account, cash, position, orders, parcels=parcels)

    def test_any_object_for_each_argument(self):
        for thing in THINGS:
            self.word("parcels", parcels=thing)
            self.word(None if type(thing) is int else "cash", cash=thing)
            self.word("position", position=thing)
            self.word(None if thing in ([], ()) else "orders", orders=thing)
            self.word("orders", orders=[buy("oil", 1, 1), thing])
            self.word("orders", orders=(thing,))

    def test_word_position(self):
        for goods in (("oil",), ("rye", "oil"), ("oil", "rye", "tin")):
            self.word("position", position=Position.flat(goods))
        self.word("position", position=PARCELS)

    def test_words_of_the_orders(self):
        self.word("orders", orders=[buy("oil", 1, 1)] * 6)
        self.word("orders", orders=[buy("oil", 1, 1), sell("tin", 1, 1, "bob"), None])
        self.word("member", orders=[buy("oil", 1, 1), sell("tin", 1, 1, "bob")])
        self.word("member", orders=[buy("oil", 1, 1)] * 4 + [buy("oil", 1, 1, "bob")])
        self.word("thing", orders=[buy("oil", 1, 1), sell("tin", 1, 1)])
        self.word("thing", orders=[buy("mix", 1, 1)], parcels=Parcels(GOODS))
        self.word(None, orders=[buy("mix", 1, 1, "bob"), sell("rye", 1, 1, "bob")])

    def test_the_first_word_comes_first(self):
        wrong = {"parcels": 1, "cash": None, "position": True, "orders": [buy("tin", 1, 1)]}
        named = {"orders": "thing"}
        for number in range(4):
            later = dict(list(wrong.items())[number:])
            first = list(later)[0]
            self.word(named.get(first, first), **later)


class TestOtherOrders(Promises):
    def test_with_order(self):
        account = Account(3, FLAT, parcels=PARCELS)
        for number in range(1, 6):
            longer = account.with_order(buy("oil", number, 0))
            self.assertEqual(len(account.orders), number - 1)
            self.assertEqual(longer.orders, account.orders + (buy("oil", number, 0),))
            self.assertEqual((longer.cash, longer.position, longer.parcels), (3, FLAT, PARCELS))
            account = longer
        for thing in (buy("oil", 1, 1), buy("tin", 1, 1), buy("oil", 1, 1, "bob"), None):
            self.fails(BadAccount, ("orders",), account.with_order, thing)

    def test_with_a_wrong_order(self):
        for account in (Account(0, FLAT, parcels=PARCELS), Account(0, FLAT, [buy("oil", 1, 1)], parcels=PARCELS)):
            for thing in THINGS:
                self.fails(BadAccount, ("orders",), account.with_order, thing)
            self.fails(BadAccount, ("thing",), account.with_order, buy("tin", 1, 1))
        self.fails(BadAccount, ("member",), account.with_order, buy("tin", 1, 1, "bob"))

    def test_without(self):
        orders = [buy("oil", number, 0) for number in range(1, 6)]
        account = Account(7, FLAT, orders, parcels=PARCELS)
        for mask in product((False, True), repeat=5):
            gone = [index for index in range(5) if mask[index]]
            expected = tuple(order for order, is_gone in zip(orders, mask) if not is_gone)
            for indices in (gone, tuple(gone[::-1]), gone + gone):
                before = list(indices)
                left = account.without(indices)
                self.assertEqual((left.orders, left.cash, left.position), (expected, 7, FLAT))
                self.assertEqual((list(indices), account.orders), (before, tuple(orders)))


class TestFills(Promises):
    def test_an_order_piece_by_piece(self):
        account = Account(100, Position(GOODS, (1, 1)), [buy("mix", 5, 7), sell("rye", 3, -2)], parcels=PARCELS)
        for bought, sold in product(range(6), range(4)):
            cash, oil, rye = 100, 1, 1
            for _ in range(bought):
                cash, oil, rye = cash - 7, oil + 2, rye - 1
            for _ in range(sold):
                cash, rye = cash - 2, rye - 1
            for taken in ((bought, sold), [bought, sold]):
                got, position = account.filled(taken)
                self.same((got, position.counts), (cash, (oil, rye)))
                after = account.after(taken)
                left = [("ann", "mix", "buy", 5 - bought, 7)] * (bought < 5)
                left += [("ann", "rye", "sell", 3 - sold, -2)] * (sold < 3)
                self.same(contents(after), (cash, (oil, rye), left))
                self.assertEqual(after.parcels, PARCELS)
        self.same(contents(account), (100, (1, 1), [("ann", "mix", "buy", 5, 7), ("ann", "rye", "sell", 3, -2)]))

    def test_none_and_all_and_great_ones(self):
        account = Account(HUGE, FLAT, [buy("mix", 10 ** 6, 10 ** 12), sell("oil", 1, -10 ** 12)], parcels=PARCELS)
        self.same(contents(account.after((0, 0))), contents(account))
        cash, position = account.filled((10 ** 6, 1))
        self.same((cash, position.counts), (HUGE - 10 ** 18 - 10 ** 12, (2 * 10 ** 6 - 1, -10 ** 6)))
        self.same(account.after((10 ** 6, 1)).orders, ())
        self.same(Account(5, FLAT, parcels=PARCELS).after([]).cash, 5)

    def test_wrong_fills(self):
        account = Account(0, FLAT, [buy("oil", 4, 1), sell("oil", 4, 1)], parcels=PARCELS)
        for call in (account.filled, account.after):
            for thing in THINGS:
                if not isinstance(thing, (list, tuple)):
                    self.fails(BadFill, (None,), call, thing)
                if thing not in (0, 1, 4) or isinstance(thing, bool):
                    self.fails(BadFill, (0,), call, (thing, -1))
                    self.fails(BadFill, (1,), call, [4, thing])
                    self.fails(BadFill, (1,), call, [4, thing, None])
            for taken, index in (((), 0), ((1,), 1), ((5,), 0), ((1, 2, 3), 2), ((0, 0, 0, 0), 2), ((5, 5), 0),
                                 ((-1, 0), 0), ((4, 5), 1), ((True, 0), 0), ((0, False), 1)):
                self.fails(BadFill, (index,), call, taken)
        self.fails(BadFill, (0,), Account(0, FLAT, parcels=PARCELS).filled, (0,))

    def test_corners(self):
        account = Account(0, FLAT, [buy("oil", 4, 1), sell("oil", 7, 1)], parcels=PARCELS)
        self.same(list(account.corners()), [(0, 0), (4, 0), (0, 7), (4, 7)])
        self.same(list(account.corners()), [(0, 0), (4, 0), (0, 7), (4, 7)])
        self.same(list(Account(0, FLAT, parcels=PARCELS).corners()), [()])

    def test_corners_of_five_orders(self):
        counts = (1, 10 ** 6, 3, 4, 5)
        account = Account(0, FLAT, [buy("oil", count, 1) for count in counts], parcels=PARCELS)
        expected = [taken[::-1] for taken in product(*[(0, count) for count in counts[::-1]])]
        self.same(list(account.corners()), expected)

    def test_corners_are_fills_and_no_fill_is_wrong(self):
        chance = random.Random(51)
        for _ in range(40):
            account = random_account(chance, PARCELS)
            fills = all_fills(account)
            self.assertLessEqual(set(account.corners()), set(fills))
            for taken in fills:
                self.assertIsNone(word_of(BadFill, account.filled, taken))


if __name__ == "__main__":
    unittest.main()
