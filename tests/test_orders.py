"""[1.4], [1.5] and the interface of coveredday.orders."""

import unittest
from itertools import product

from coveredday.errors import BadOrder
from coveredday.orders import Order, meets
from tests.common import THINGS, Promises, word_of

PARTS = ("member", "thing", "side", "count", "limit")
RIGHT = ("ann", "oil", "buy", 4, 11)
WRONG = ("Ann", "cash", "Buy", 0, None)


def is_right(part, thing):
    """Whether thing can be this part of an order, worked out anew."""
    if part in ("member", "thing"):
        letters = isinstance(thing, str) and 1 <= len(thing) <= 12 and set(thing) <= set("abcdefghijklmnopqrstuvwxyz")
        return letters and not (part == "thing" and thing == "cash")
    if part == "side":
        return thing == "buy" or thing == "sell"
    if type(thing) is not int:
        return False
    return 1 <= thing <= 10 ** 6 if part == "count" else -10 ** 12 <= thing <= 10 ** 12


class TestOrder(Promises):
    def test_attributes_and_class_values(self):
        order = Order("cash", "oil", "sell", 7, -5)
        self.same([getattr(order, part) for part in PARTS], ["cash", "oil", "sell", 7, -5])
        self.same((Order.BUY, Order.SELL, order.BUY, order.SELL), ("buy", "sell", "buy", "sell"))

    def test_sign(self):
        self.same((Order(*RIGHT).sign, Order("ann", "oil", "sell", 4, 11).sign), (1, -1))

    def test_both_ends_of_each_range(self):
        for count, limit in product((1, 10 ** 6), (-10 ** 12, 0, 10 ** 12)):
            order = Order("a", "twelveletter", "buy", count, limit)
            self.same((order.count, order.limit), (count, limit))
        for count in (0, -1, 10 ** 6 + 1):
            self.fails(BadOrder, ("count",), Order, "a", "b", "buy", count, 0)
        for limit in (-10 ** 12 - 1, 10 ** 12 + 1):
            self.fails(BadOrder, ("limit",), Order, "a", "b", "buy", 1, limit)

    def test_any_object_in_each_part(self):
        for index, part in enumerate(PARTS):
            for thing in THINGS:
                parts = RIGHT[:index] + (thing,) + RIGHT[index + 1:]
                expected = None if is_right(part, thing) else part
                self.assertEqual(word_of(BadOrder, Order, *parts), expected)

    def test_the_first_wrong_part_is_told(self):
        for faults in product((False, True), repeat=5):
            parts = [wrong if fault else right for right, wrong, fault in zip(RIGHT, WRONG, faults)]
            expected = PARTS[faults.index(True)] if any(faults) else None
            self.assertEqual(word_of(BadOrder, Order, *parts), expected)

    def test_equal_if_all_five_are(self):
        others = ("bob", "rye", "sell", 5, 12)
        self.assertTrue(Order(*RIGHT) == Order(*RIGHT))
        self.assertFalse(Order(*RIGHT) != Order(*RIGHT))
        for index, other in enumerate(others):
            self.assertFalse(Order(*RIGHT) == Order(*RIGHT[:index], other, *RIGHT[index + 1:]))
        for thing in THINGS + (RIGHT, list(RIGHT)):
            self.assertFalse(Order(*RIGHT) == thing)

    def test_of_count(self):
        order = Order(*RIGHT)
        for count in (1, 3, 4, 5, 10 ** 6):
            self.assertTrue(order.of_count(count) == Order("ann", "oil", "buy", count, 11))
        self.assertTrue(order == Order(*RIGHT))
        for thing in THINGS:
            if not is_right("count", thing):
                self.fails(BadOrder, ("count",), order.of_count, thing)


class TestMeets(Promises):
    def both(self, one, other):
        """Whether they meet, asked both ways round."""
        self.same(meets(one, other), meets(other, one))
        return meets(one, other)

    def test_limits(self):
        for buy, sell in product((-10 ** 12, -3, -2, 0, 2, 3, 10 ** 12), repeat=2):
            one, other = Order("a", "oil", "buy", 2, buy), Order("b", "oil", "sell", 9, sell)
            self.same(self.both(one, other), buy >= sell)

    def test_member_thing_and_side(self):
        for member, thing, side in product(("a", "b"), ("oil", "rye"), ("buy", "sell")):
            for limits in ((5, 5), (9, 1), (1, 9)):
                one = Order("a", "oil", "buy", 1, limits[0])
                other = Order(member, thing, side, 1, limits[1])
                right = member == "b" and thing == "oil" and side == "sell" and limits[0] >= limits[1]
                self.same(self.both(one, other), right)

    def test_counts_do_not_matter(self):
        self.same(self.both(Order("a", "x", "sell", 10 ** 6, 1), Order("b", "x", "buy", 1, 1)), True)


if __name__ == "__main__":
    unittest.main()
