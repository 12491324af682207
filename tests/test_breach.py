"""[7.8], [7.10] (what a Breach keeps), [7.11] and the interface of coveredday.breach."""

import unittest

from coveredday.breach import Breach, Day
from tests.common import DEEP, THINGS, Promises

RIGHT = {"group": "firm", "end": "stand", "up": "oil", "down": "cash", "opening": ("gap", "empty"), "lead": ("gap",),
         "first": ("till",), "ring": ("shift", "bar", "gap", "till"), "tail": ("shift", "bar"), "turns": 7,
         "phase": "stand", "excess": 1}


def tuples(thing):
    """The thing with all lists as tuples, worked out anew."""
    return tuple(tuples(part) for part in thing) if isinstance(thing, (list, tuple)) else thing


class TestBreach(Promises):
    def test_attributes(self):
        self.same(vars(Breach(**RIGHT)), RIGHT)
        listed = {name: list(part) if isinstance(part, tuple) else part for name, part in RIGHT.items()}
        made = Breach("firm", "stand", "oil", "cash", **dict(list(listed.items())[4:]))
        for part in listed.values():
            if isinstance(part, list):
                part.pop()
        self.same(vars(made), RIGHT)

    def test_any_objects(self):
        for thing in THINGS:
            made = Breach(thing, thing, thing, thing, **{name: thing for name in list(RIGHT)[4:]})
            self.same(list(vars(made).values()), [tuples(thing)] * 12)
        self.same(Breach(**dict(RIGHT, lead=[DEEP])).lead, (tuples(DEEP),))

    def test_properties(self):
        self.same((Breach(**RIGHT).walk_length, Breach(**RIGHT).is_safe), (32, False))
        for turns in (1, 10 ** 12, 10 ** 40):
            self.same(Breach(**dict(RIGHT, turns=turns)).walk_length, 4 + 4 * turns)
        straight = Breach(**dict(RIGHT, lead=(), first=(), ring=(), tail=("till", "shift", "bar"), turns=0, phase=None))
        self.same(straight.walk_length, 3)

    def test_equal_ones(self):
        breach = Breach(**RIGHT)
        self.assertTrue(breach == Breach(**RIGHT))
        self.assertTrue(breach == Breach(**dict(RIGHT, lead=["gap"], opening=["gap", "empty"])))
        for name in RIGHT:
            for thing in ("other", None, ("x",)):
                self.assertFalse(breach == Breach(**dict(RIGHT, **{name: thing})))
        for thing in THINGS + (RIGHT, tuple(RIGHT.values())):
            self.assertFalse(breach == thing)


class TestDay(Promises):
    def test_tuples_throughout(self):
        prices, members = [0, 1], [["a", "firm", 3], ("b", "firm", 4)]
        deeds = [["enter", "gap", None], ["enter", "shift", [1, 2]], ("notice", "a")]
        day = Day(prices, members, deeds)
        prices.pop()
        members[0].pop()
        deeds[1][2].pop()
        deeds.pop()
        self.same((day.prices, day.members, day.deeds), (
            (0, 1), (("a", "firm", 3), ("b", "firm", 4)),
            (("enter", "gap", None), ("enter", "shift", (1, 2)), ("notice", "a"))))

    def test_equal_days(self):
        parts = ((0,), (("a", "firm", 3),), (("notice", "a"),))
        day = Day(*parts)
        self.assertTrue(day == Day([0], [["a", "firm", 3]], [["notice", "a"]]))
        for at, other in enumerate(((1,), (("a", "firm", 4),), ())):
            self.assertFalse(day == Day(*parts[:at], other, *parts[at + 1:]))
        for thing in THINGS + (parts,):
            self.assertFalse(day == thing)


if __name__ == "__main__":
    unittest.main()
