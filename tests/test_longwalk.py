"""[9.6] and the interface of coveredday.longwalk."""

import unittest

from coveredday.errors import BadTurns
from coveredday.longwalk import LongWalk
from tests.common import THINGS, Promises


class TestLongWalks(Promises):
    def test_attributes(self):
        first, ring, tail = ["a", "b"], ["c"], ["d"]
        walk = LongWalk(None, "x", first, ring, tail)
        first.append("z")
        ring[0] = "z"
        tail.clear()
        self.same((walk.amount, walk.behind, walk.first, walk.ring, walk.tail), (None, "x", ("a", "b"), ("c",), ("d",)))
        walk = LongWalk(3, None, ())
        self.same((walk.amount, walk.behind, walk.first, walk.ring, walk.tail), (3, None, (), (), ()))

    def test_gone(self):
        walk = LongWalk(None, "x", ("a", "b"), ring=("c", "d"), tail=("e",))
        self.same((walk.gone(), walk.gone(0), walk.gone(1)), (("a", "b", "e"), ("a", "b", "e"), ("a", "b", "c", "d", "e")))
        self.same(walk.gone(turns=2), ("a", "b", "c", "d", "c", "d", "e"))
        self.same(len(walk.gone(4998)), 9999)
        for turns in (5000, 10 ** 12, 10 ** 40):
            self.same(LongWalk(4, None, ("a",), tail=("b",)).gone(turns), ("a", "b"))

    def test_wrong_turns(self):
        walk = LongWalk(None, "x", (), ("c",), ())
        for thing in THINGS:
            if type(thing) is not int or thing < 0:
                self.fails(BadTurns, (thing,), walk.gone, thing)

    def test_endless(self):
        self.same([LongWalk(amount, None, ()).is_endless for amount in (None, 0, 1, 10 ** 40)], [True, False, False, False])


if __name__ == "__main__":
    unittest.main()
