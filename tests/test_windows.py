"""[6.12], [6.13] and the interface of coveredday.windows."""

import random
import unittest
from itertools import product

from coveredday.errors import NoGroup, NoWindow
from coveredday.plan import Plan
from coveredday.tables import Table
from coveredday.walks import walk_table
from coveredday.windows import Window, window_fault, window_table, windows
from tests.common import THINGS, Promises
from tests.plans import DAY, GROUPS, OIL, TABLES, busy_plan, chain_plan, example_plan, random_plan
from tests.test_phases import TWO_GROUPS, end_at, phases_behind, told_openings
from tests.test_walks import all_walks, is_walk


def rows_of_phases(plan, group, phase, walk):
    """All rows of phases, one behind each node, in which steps can lead along the walk."""
    rows = [(phase,)]
    for node in walk:
        rows = [row + (late,) for row in rows for late in phases_behind(plan, group, node, row[-1])]
    return rows


def ends_of(plan, group, opening, walk):
    """The ends of the walk as a window's, by all rows of phases."""
    rows = rows_of_phases(plan, group, opening[1], walk[:-1])
    found = {end_at(plan, walk[-1], row[-1]) for row in rows} - {None}
    return [end for end in ("stand", "free") if end in found]


def walks_in_order(plan, length, behind):
    """All walks of one up to so many nodes: each ahead of what continues it, in the order of followers."""
    followers = {name: [other for other, _ in rows] for name, _, rows in plan.nodes}
    followers[None] = [plan.nodes[0][0]]
    if length == 0:
        return
    for node in followers[behind]:
        yield (node,)
        for walk in walks_in_order(plan, length - 1, node):
            yield (node,) + walk


def all_windows(plan, group, length):
    """The tuples (opening, walk, end) of all windows, in order, worked out anew."""
    return [(opening, walk, end) for opening in told_openings(plan, group)
            for walk in walks_in_order(plan, length, opening[0]) for end in ends_of(plan, group, opening, walk)]


def contents(window):
    return window.opening, window.walk, window.end


class TestWindows(Promises):
    def test_class(self):
        opening, walk = ["gap", "empty"], ["till", "shift", "bar"]
        window = Window("firm", opening, walk, "stand")
        opening.pop()
        walk.pop()
        self.same((window.group, window.opening, window.walk, window.end),
                  ("firm", ("gap", "empty"), ("till", "shift", "bar"), "stand"))
        right = ("firm", ("gap", "empty"), ("till", "shift", "bar"), "stand")
        self.assertTrue(window == Window(*right))
        for at, other in enumerate(("other", ("gap", "holding"), ("till",), "free")):
            self.assertFalse(window == Window(*right[:at], other, *right[at + 1:]))
        for thing in THINGS + (right,):
            self.assertFalse(window == thing)

    def test_the_example(self):
        plan = example_plan()
        short = [("gap", "empty"), ("gap", "holding")]
        walk = ("till", "shift", "bar")
        again = walk + ("gap",) + walk
        self.same([contents(window) for window in windows(plan, "firm", 4)], [(one, walk, "stand") for one in short])
        for window in windows(plan, "firm", 4):
            self.assertIs(type(window), Window)
            self.assertEqual((window.group, window_table(plan, window)), ("firm", Table.full(OIL, 2)))
        self.same([contents(window) for window in windows(plan, "firm", 7)],
                  [(one, way, "stand") for one in short for way in (walk, again)])
        for length, count in ((0, 0), (2, 0), (3, 2), (6, 2), (7, 4), (11, 6), (12, 6)):
            self.same(len(list(windows(plan, "firm", length))), count)

    def test_random_plans(self):
        chance = random.Random(81)
        found = 0
        for number in range(120):
            plan = busy_plan(chance) if number % 4 else random_plan(chance)
            length = number % 7
            for group in plan.group_names:
                expected = all_windows(plan, group, length)
                self.same([contents(window) for window in windows(plan, group, length)], expected)
                found += len(expected)
        self.assertGreater(found, 500)

    def test_all_orders_of_followers_and_both_ends(self):
        nodes = [("na", ("free",), [("nb", None), ("na", None), ("nc", None)]), ("nb", ("close",), [("na", None), ("nc", None)]),
                 ("nc", ("look", ("firm",)), [("nb", None), ("na", None)])]
        plan = Plan(OIL, TABLES, TWO_GROUPS, nodes)
        for group in ("firm", "other"):
            expected = all_windows(plan, group, 7)
            self.same([contents(window) for window in windows(plan, group, 7)], expected)
            self.same(len({end for _, _, end in expected}), 2 if group == "firm" else 1)

    def test_greatest_length(self):
        # In this plan there are millions of walks of 12 nodes, but few of them are windows.
        names = ["n" + letter for letter in "abcdefgh"]
        nodes = [(name, ("rest",), [(other, None) for other in names[:4]]) for name in names]
        nodes[3] = ("nd", ("rest",), [("ne", None)])
        nodes[4] = ("ne", ("desk",), [("nf", None)])
        nodes[5] = ("nf", ("close",), [("nf", None)])
        plan = Plan(OIL, TABLES, GROUPS, nodes)
        self.same(len(list(windows(plan, "firm", 4))), 1)
        for window in windows(plan, "firm", 12):
            self.assertIsNone(window_fault(plan, window))
            break
        self.same(list(windows(chain_plan(("rest",)), "firm", 12)), [])
        plan = Plan(OIL, TABLES, GROUPS, [(name, ("rest",), [(other, None) for other in names[:4]]) for name in names])
        self.same(list(windows(plan, "firm", 12)), [])

    def test_no_group_is_told_when_the_iteration_begins(self):
        for thing in THINGS:
            made = windows(example_plan(), thing, 3)
            self.fails(NoGroup, (thing,), lambda: next(iter(made)))

    def test_windows_beside_each_other(self):
        plan = example_plan()
        pairs = list(zip(windows(plan, "firm", 7), windows(plan, "firm", 7)))
        self.same(len(pairs), 4)
        self.assertTrue(all(one == other for one, other in pairs))


class TestWindowFault(Promises):
    def word(self, plan, window, expected):
        self.same(window_fault(plan, window), expected)
        if expected is None:
            self.assertEqual(window_table(plan, window), walk_table(plan, window.walk, window.opening[0]))
        else:
            self.fails(NoWindow, (expected,), window_table, plan, window)

    def test_all_small_ones(self):
        chance = random.Random(82)
        for _ in range(15):
            plan = busy_plan(chance, 4)
            for group in plan.group_names:
                rows = all_windows(plan, group, 3)
                places = (None,) + plan.node_names
                for opening in product(places, ("empty", "holding", "stand")):
                    for walk in [walk for length in range(4) for walk in all_walks(plan, length, opening[0])]:
                        for end in ("stand", "free"):
                            right = (opening, walk, end) in rows
                            word = None if right else "opening" if opening not in told_openings(plan, group) else (
                                "end" if walk else "walk")
                            self.word(plan, Window(group, list(opening), list(walk), end), word)

    def test_words(self):
        plan = example_plan()
        walk = ("till", "shift", "bar")
        self.word(plan, Window("firm", ("gap", "empty"), walk * 1 + ("gap",) + walk, "stand"), None)
        for thing in THINGS:
            self.word(plan, Window(thing, ("gap", "empty"), walk, "stand"), "group")
            self.word(plan, Window(thing, ("gap", "stand"), (), "free"), "group")
            self.word(plan, Window("firm", (thing, "empty"), walk, "stand"), "opening" if thing is not None else "walk")
            self.word(plan, Window("firm", ("gap", thing), (), None), "opening")
            self.word(plan, Window("firm", ("gap", "empty"), (thing,), thing), "walk")
            self.word(plan, Window("firm", ("gap", "empty"), walk + (thing,), thing), "walk")
            self.word(plan, Window("firm", ("gap", "empty"), walk, thing), "end")
            self.word(plan, Window("firm", ("gap", "empty"), walk[:2], thing), "end")
        self.word(plan, Window("firm", (), walk, "stand"), "opening")
        self.word(plan, Window("firm", ("gap", "empty", "empty"), walk, "stand"), "opening")
        self.word(plan, Window("firm", ("gap", "empty"), (), "stand"), "walk")
        self.word(plan, Window("firm", ("gap", "empty"), walk[1:], "stand"), "walk")
        self.word(plan, Window("firm", ("gap", "empty"), walk, "free"), "end")
        self.word(plan, Window("firm", ("gap", "empty"), walk + ("gap",), "stand"), "end")

    def test_long_windows(self):
        plan = example_plan()
        walk = (("till", "shift", "bar", "gap") * 1500)[:-1]
        window = Window("firm", ("gap", "empty"), walk, "stand")
        self.word(plan, window, None)
        self.same(window_table(plan, window)["cash", "oil"], 3000)
        self.assertTrue(is_walk(plan, walk, "gap"))

    def test_tables_with_calm_edges(self):
        nodes = [("na", ("tell",), [("nb", None)]), ("nb", ("desk",), [("nc", None)]),
                 ("nc", ("move", "deep"), [("nd", "day"), ("nc", None)]), ("nd", ("close",), [("na", None)])]
        plan = Plan(OIL, TABLES, GROUPS, nodes)
        window = Window("firm", ("na", "empty"), ("nb", "nc", "nc", "nd"), "stand")
        self.assertEqual(window_table(plan, window), Table.full(OIL, 4) + DAY)


if __name__ == "__main__":
    unittest.main()
