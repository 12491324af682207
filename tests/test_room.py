"""[5.7] and the interface of coveredday.room."""

import random
import unittest

from coveredday.account import Account
from coveredday.errors import BadAccount, BadPrices, OtherGoods
from coveredday.fills import is_covered
from coveredday.orders import Order
from coveredday.parcels import Parcels
from coveredday.position import Position
from coveredday.room import room
from coveredday.tables import Table
from tests.common import THINGS, Promises
from tests.test_account import FLAT, HUGE, PARCELS, buy, contents, sell
from tests.test_accountjudge import OIL, oil_account
from tests.test_fills import small_cases
from tests.test_pairing import OTHERS
from tests.test_position import is_number_row
from tests.test_tables import example


class TestRoom(Promises):
    def test_against_all_counts(self):
        chance = random.Random(65)
        seen = set()
        for account, prices, table, _ in small_cases(66, 150, 4, 2):
            order = Order("ann", chance.choice(account.parcels.things), chance.choice(("buy", "sell")),
                          chance.randint(1, 8), chance.randint(-4, 4))
            before = contents(account)
            fitting = [count for count in range(1, order.count + 1)
                       if is_covered(account.with_order(order.of_count(count)), prices, table)]
            if not is_covered(account, prices, table):
                self.same(fitting, [])
            self.same(fitting, list(range(1, len(fitting) + 1)))
            self.same(room(account, order, prices, table), len(fitting))
            self.same(contents(account), before)
            seen.add("all" if len(fitting) == order.count else "none" if not fitting else "some")
        self.assertEqual(seen, {"all", "some", "none"})

    def test_bounds(self):
        for cash, expected in ((-1, 0), (0, 0), (3, 0), (4, 1), (4 * 10 ** 6 - 1, 10 ** 6 - 1), (4 * 10 ** 6, 10 ** 6),
                               (HUGE, 10 ** 6)):
            self.same(room(oil_account(cash), buy("oil", 10 ** 6, 10), (10,), OIL), expected)
        self.same(room(oil_account(4), buy("oil", 1, 10), (10,), OIL), 1)
        self.same(room(oil_account(3), buy("oil", 1, 10), (10,), OIL), 0)

    def test_an_order_that_cannot_hurt(self):
        self.same(room(oil_account(0), buy("oil", 10 ** 6, 6), (10,), OIL), 10 ** 6)
        self.same(room(oil_account(-1), buy("oil", 10 ** 6, 0), (10,), OIL), 0)
        self.same(room(oil_account(0, pieces=0), sell("oil", 9, 13), (10,), OIL), 0)

    def test_five_orders_already(self):
        orders = [buy("oil", 1, 0)] * 5
        self.same(room(oil_account(99, *orders), buy("oil", 1, 0), (10,), OIL), 0)
        self.same(room(oil_account(99, *orders[1:]), buy("oil", 1, 0), (10,), OIL), 1)

    def test_wrong_orders_come_first(self):
        for orders in ((), (buy("oil", 1, 1),), (buy("oil", 1, 1),) * 5):
            account = Account(-1, FLAT, orders, parcels=PARCELS)
            for thing in THINGS:
                self.fails(BadAccount, ("orders",), room, account, thing, None, OIL)
            self.fails(BadAccount, ("member" if orders else "thing",), room, account, buy("tin", 1, 1, "bob"), None, OIL)
            self.fails(BadAccount, ("thing",), room, account, buy("tin", 1, 1), None, OIL)

    def test_errors_of_the_market_come_ahead_of_the_answer(self):
        for orders in ((), (buy("oil", 1, 1),) * 5):
            account = Account(-1, Position(PARCELS.goods, (1, 1)), orders, parcels=PARCELS)
            for thing in THINGS:
                if not is_number_row(thing, 2):
                    self.fails(BadPrices, (), room, account, buy("mix", 1, 1), thing, OIL)
            for goods in OTHERS:
                self.fails(OtherGoods, (), room, account, buy("mix", 1, 1), (1, 1), Table.full(goods, 1))

    def test_parcels(self):
        account = Account(30, FLAT, parcels=PARCELS)
        # One piece of the mix is 2 oil and -1 rye: worth 2 here, and it needs 3.
        self.same(room(account, buy("mix", 100, 2), (3, 4), example()), 10)
        self.same(room(account, buy("mix", 100, 3), (3, 4), example()), 7)
        self.same(Parcels(PARCELS.goods).things, ("oil", "rye"))


if __name__ == "__main__":
    unittest.main()
