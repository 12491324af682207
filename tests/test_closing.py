"""[8.6] and the interface of coveredday.closing."""

import unittest

from coveredday.closing import Closing, close_out
from coveredday.errors import BadPrices
from coveredday.position import Position
from tests.common import THINGS, Promises

GOODS = ("oil", "rye")


class TestClosing(Promises):
    def look(self, cash, counts, prices, expected):
        position = Position(GOODS, counts)
        found = close_out(cash, position, prices)
        self.same((type(found), found.worth, found.before, found.paid, found.cash), (Closing,) + expected)
        self.same(position.counts, tuple(counts))
        self.assertTrue(found == Closing(*expected))

    def test_ordinary_closings(self):
        self.look(10, (2, -1), (3, 4), (2, 12, 0, 12))
        self.look(-7, (2, -1), [3, 4], (2, -5, 5, 0))
        self.look(5, (0, 0), (3, 4), (0, 5, 0, 5))

    def test_just_0_and_1_less(self):
        self.look(-2, (2, -1), (3, 4), (2, 0, 0, 0))
        self.look(-3, (2, -1), (3, 4), (2, -1, 1, 0))
        self.look(0, (0, 0), (0, 0), (0, 0, 0, 0))
        self.look(-1, (0, 0), (0, 0), (0, -1, 1, 0))

    def test_any_size(self):
        great = 10 ** 40
        self.look(great, (-great, 1), (great, 0), (-great * great, great - great * great, great * great - great, 0))

    def test_wrong_prices(self):
        for thing in THINGS:
            if not (type(thing) in (list, tuple) and len(thing) == 2 and all(type(one) is int for one in thing)):
                self.fails(BadPrices, (), close_out, 1, Position(GOODS, (1, 1)), thing)

    def test_equality(self):
        right = (1, 2, 3, 4)
        self.assertTrue(Closing(*right) == Closing(*right))
        for at in range(4):
            wrong = list(right)
            wrong[at] = 9
            self.assertFalse(Closing(*right) == Closing(*wrong))
        for other in (right, None, 1, "x"):
            self.assertFalse(Closing(*right) == other)


if __name__ == "__main__":
    unittest.main()
