"""[7.1] to [7.4] and the interface of coveredday.longest."""

import random
import unittest

from coveredday.errors import BadEnd, Endless, NoAsset, NoGroup, SamePair
from coveredday.longest import longest, potentials
from coveredday.plan import Plan
from coveredday.tables import Table
from tests.common import THINGS, Promises, all_pairs
from tests.plans import GROUPS, OIL, TABLES, busy_plan, chain_plan, example_plan, forward_plan, random_plan
from tests.test_phases import told_openings, told_states, told_steps
from tests.test_windows import all_windows

HUGE = 10 ** 40


def entry(plan, one, other, up, down):
    """How far the edge lets the pair part."""
    table = plan.edge_table(one, other)
    return 0 if table is None else table[up, down]


def raised(plan, group, end, up, down):
    """The greatest sums of states and whether they are endless, by raising them along the steps again and again."""
    known = told_states(plan, group)
    rows = [(state, entry(plan, state[0], node, up, down), late, told)
            for state in known for node, late, told in told_steps(plan, group, state)]
    rows = [row for row in rows if row[3] in (None, end)]
    numbers = {}
    for turn in range(2 * len(known) + 2):
        if turn == len(known) + 1:
            before = dict(numbers)
        fresh = dict(numbers)
        for state, weight, late, told in rows:
            if told == end or late in numbers:
                fresh[state] = max(fresh.get(state, 0), weight + (0 if told == end else numbers[late]))
        numbers = fresh
    return numbers, numbers != before


def sums_of(plan):
    """All (group, end, up, down), in the order of verdicts."""
    return [(group, end, up, down) for group in plan.group_names for end in ("free", "stand")
            for up, down in all_pairs(plan.goods)]


def window_sum(plan, opening, walk, up, down):
    return sum(entry(plan, one, other, up, down) for one, other in zip((opening[0],) + walk, walk))


class TestGreatestSums(Promises):
    def look(self, plan):
        """Looks at all sums of a plan; how many of them are endless."""
        endless = 0
        for row in sums_of(plan):
            group = row[0]
            numbers, is_endless = raised(plan, *row)
            if is_endless:
                endless += 1
                self.same(longest(plan, *row), None)
                self.fails(Endless, row, potentials, plan, *row)
                continue
            self.same(longest(plan, *row), max([numbers.get(one, 0) for one in told_openings(plan, group)]))
            expected = tuple((state, numbers[state]) for state in told_states(plan, group) if state in numbers)
            self.same(potentials(plan, *row), expected)
        return endless

    def test_random_plans(self):
        chance = random.Random(83)
        endless = [self.look(busy_plan(chance) if number % 3 else random_plan(chance)) for number in range(60)]
        self.assertGreater(len([count for count in endless if count]), 5)

    def test_against_all_windows_of_plans_without_rings(self):
        chance = random.Random(84)
        for _ in range(40):
            plan = forward_plan(chance, 5)
            names = plan.node_names
            for group, end, up, down in sums_of(plan):
                found = [window_sum(plan, opening, walk, up, down)
                         for opening, walk, told in all_windows(plan, group, len(names)) if told == end]
                self.same(longest(plan, group, end, up, down), max(found, default=0))

    def test_no_window_at_all(self):
        plan = chain_plan(("move", "day"), ("desk",), back="na")
        for row in sums_of(plan):
            self.same((longest(plan, *row), potentials(plan, *row)), (0, ()))

    def test_the_example(self):
        plan = example_plan()
        self.same(longest(plan, "firm", "free", "oil", "cash"), 0)
        self.same(longest(plan, "firm", "stand", "oil", "cash"), None)
        nodes = plan.nodes[:3] + (("bar", ("close",), (("bar", None),)),)
        plan = Plan(plan.goods, plan.tables, plan.groups, nodes)
        self.same(longest(plan, "firm", "stand", "oil", "cash"), 2)
        # From (till, holding) no end is reached: the window has to stand behind the desk.
        self.same(potentials(plan, "firm", "stand", "cash", "oil"), (
            (("gap", "empty"), 2), (("till", "stand"), 2), (("shift", "stand"), 2), (("bar", "stand"), 0)))

    def test_a_ring_that_no_end_is_reached_from_is_not_endless(self):
        nodes = [("na", ("desk",), [("nb", None), ("nc", None)]), ("nb", ("move", "day"), [("nb", None)]),
                 ("nc", ("move", "day"), [("nd", None)]), ("nd", ("close",), [("nd", None)])]
        plan = Plan(OIL, TABLES, GROUPS, nodes)
        self.same(longest(plan, "firm", "stand", "oil", "cash"), 2)

    def test_a_ring_of_weight_0_is_not_endless(self):
        tables = TABLES + (("calm", Table(OIL, (("oil", "cash", 0), ("cash", "oil", 3)))),)
        nodes = [("na", ("desk",), [("nb", None)]), ("nb", ("move", "calm"), [("nb", None), ("nc", None)]),
                 ("nc", ("close",), [("na", None)])]
        plan = Plan(OIL, tables, GROUPS, nodes)
        self.same(longest(plan, "firm", "stand", "oil", "cash"), 0)
        self.same(longest(plan, "firm", "stand", "cash", "oil"), None)

    def test_a_ring_that_cannot_be_reached(self):
        nodes = [("na", ("desk",), [("nc", None)]), ("nb", ("move", "day"), [("nb", None), ("nc", None)]),
                 ("nc", ("close",), [("na", None)])]
        self.same(longest(Plan(OIL, TABLES, GROUPS, nodes), "firm", "stand", "oil", "cash"), 0)

    def test_great_entries(self):
        tables = (("huge", Table.full(OIL, HUGE, cap=HUGE)),)
        nodes = [("na", ("desk",), [("nb", None)]), ("nb", ("move", "huge"), [("nc", None)]),
                 ("nc", ("move", "huge"), [("nd", None)]), ("nd", ("close",), [("nd", None)])]
        plan = Plan(OIL, tables, [("firm", "huge")], nodes)
        self.same(longest(plan, "firm", "stand", "oil", "cash"), 2 * HUGE)

    def test_the_greatest_plan(self):
        chance = random.Random(85)
        names = ["n" + letter for letter in "abcdefghijkl"]
        goods = ("a", "b", "c", "d", "e")
        tables = [("t" + letter, Table.full(goods, most)) for letter, most in zip("abcdefgh", (0, 0, 0, 0, 0, 0, 0, 1))]
        for kinds in (["move", "tell", "desk", "free", "look", "close"] * 2,):
            nodes = []
            for name, kind in zip(names, kinds):
                step = {"move": ("move", "ta"), "look": ("look", ("ga", "gc"))}.get(kind, (kind,))
                nodes.append((name, step, [(other, None) for other in chance.sample(names, 4)]))
            plan = Plan(goods, tables, [("ga", "ta"), ("gb", "tb"), ("gc", "th")], nodes)
            for row in sums_of(plan)[::37]:
                numbers, is_endless = raised(plan, *row)
                self.same((is_endless, longest(plan, *row)), (False, 0))
                self.same(dict(potentials(plan, *row)), {state: numbers[state] for state in told_states(plan, row[0])
                                                         if state in numbers})


class TestErrors(Promises):
    def test_in_order(self):
        plan = example_plan()
        for call in (longest, potentials):
            for thing in THINGS:
                self.fails(NoGroup, (thing,), call, plan, thing, thing, thing, thing)
                self.fails(BadEnd, (thing,), call, plan, "firm", thing, thing, thing)
                if thing not in ("oil", "cash"):
                    self.fails(NoAsset, (thing,), call, plan, "firm", "free", thing, "tin")
                    self.fails(NoAsset, (thing,), call, plan, "firm", "stand", "oil", thing)
            for asset in ("oil", "cash"):
                self.fails(SamePair, (asset,), call, plan, "firm", "stand", asset, asset)
            self.fails(NoAsset, ("rye",), call, plan, "firm", "stand", "rye", "rye")
            self.fails(BadEnd, ("out",), call, plan, "firm", "out", "oil", "oil")
            for up, down, wrong in (("rye", "oil", "rye"), ("oil", "rye", "rye"), ("cash", None, None), (True, "tin", True)):
                for windowless in (chain_plan(("rest",)), chain_plan(("move", "day"), ("close",))):
                    self.fails(NoAsset, (wrong,), call, windowless, "firm", "stand", up, down)
        self.fails(Endless, ("firm", "stand", "oil", "cash"), potentials, plan, "firm", "stand", "oil", "cash")


if __name__ == "__main__":
    unittest.main()
