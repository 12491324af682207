"""[6.8] to [6.11], the states of the example in [6.13], and the interface of coveredday.phases."""

import random
import unittest
from itertools import product

from coveredday.errors import NoGroup, NoNode, NoPhase
from coveredday.phases import PHASES, Step, ends, next_phases, openings, states, steps
from coveredday.plan import Plan
from tests.common import THINGS, Promises
from tests import plans
from tests.plans import DAY, DEEP_TABLE, GROUPS, OIL, TABLES, busy_plan, chain_plan, example_plan, random_plan
from tests.test_walks import all_walks, follows

# The table of the document: an empty field means that the phase stays.
LINES = """
tell  | none           | none           |     |      |         |
desk  | holding, stand | holding, stand |     |      |         |
free  | holding, free  | holding, free  |     |      |         |
look  | empty          | holding, stand | out | out  | freeout | freeout
close | empty          | holding        | stand | none | free  | none
"""
ALL_KINDS = (("move", "day"), ("tell",), ("desk",), ("free",), ("look", ("firm",)), ("look", ("other",)),
             ("look", ("other", "firm")), ("close",), ("rest",))
TWO_GROUPS = (("firm", "deep"), ("other", "day"))


def told_phases():
    """For each (kind, phase) the phases that the lines tell."""
    told = {(kind, phase): (phase,) for kind in plans.KINDS for phase in plans.PHASES}
    for line in LINES.strip().split("\n"):
        kind, *fields = [field.strip() for field in line.split("|")]
        for phase, field in zip(plans.PHASES, fields):
            if field:
                told[kind, phase] = () if field == "none" else tuple(field.split(", "))
    return told


TOLD = told_phases()


def phases_behind(plan, group, node, phase):
    """The next phases, off the lines of the table."""
    step = [step for name, step, _ in plan.nodes if name == node][0]
    return TOLD["rest" if step[0] == "look" and group not in step[1] else step[0], phase]


def end_at(plan, node, phase):
    """The end that entering the node brings, or None."""
    if [step for name, step, _ in plan.nodes if name == node][0] != ("close",):
        return None
    return {"stand": "stand", "out": "stand", "free": "free", "freeout": "free"}.get(phase)


def told_openings(plan, group):
    """The openings, off walks: of few nodes, so that as many as there are nodes are enough twice over."""
    count = len(plan.nodes)
    ways = {(): False}
    seen = {(None, False)}
    for _ in range(2 * count):
        fresh = {}
        for way, passed in ways.items():
            behind = way[-1] if way else None
            for node in plan:
                if follows(plan, behind, node):
                    passes = passed or (behind is not None and plan.kind(behind) in ("desk", "free"))
                    if (node, passes) not in seen:
                        seen.add((node, passes))
                        fresh[way + (node,)] = passes
        ways = fresh
    found = [(None, "empty")]
    for node in plan:
        if plan.kind(node) == "tell" and ((node, False) in seen or (node, True) in seen):
            found.append((node, "empty"))
            if (node, True) in seen:
                found.append((node, "holding"))
    return tuple(found)


def told_steps(plan, group, state):
    """The rows (node, state, end) of the steps, in order."""
    place, phase = state
    rows = [(plan.nodes[0][0], None)] if place is None else [
        row for name, _, followers in plan.nodes if name == place for row in followers]
    found = []
    for node, _ in rows:
        if end_at(plan, node, phase):
            found.append((node, None, end_at(plan, node, phase)))
        found += [(node, (node, late), None) for late in phases_behind(plan, group, node, phase)]
    return found


def told_states(plan, group):
    """The states, by taking all steps again and again."""
    found = set(told_openings(plan, group))
    while True:
        more = {state for one in found for _, state, _ in told_steps(plan, group, one) if state is not None} | found
        if more == found:
            places = (None,) + plan.node_names
            return tuple(sorted(found, key=lambda state: (places.index(state[0]), plans.PHASES.index(state[1]))))
        found = more


class TestPhases(Promises):
    def test_the_phases(self):
        self.same(PHASES, ("empty", "holding", "stand", "out", "free", "freeout"))

    def test_all_kinds_in_all_phases(self):
        plan = chain_plan(*ALL_KINDS, groups=TWO_GROUPS)
        for group, node, phase in product(("firm", "other"), plan, PHASES):
            self.same(next_phases(plan, group, node, phase), phases_behind(plan, group, node, phase))
            self.same(ends(plan, node, phase), end_at(plan, node, phase))

    def test_some_by_hand(self):
        plan = chain_plan(*ALL_KINDS, groups=TWO_GROUPS)
        for node, phase, late in (("nb", "holding", ()), ("nb", "stand", ("stand",)), ("nc", "empty", ("holding", "stand")),
                                  ("nd", "empty", ("holding", "free")), ("ne", "stand", ("out",)), ("nf", "stand", ("stand",)),
                                  ("ng", "holding", ("holding", "stand")), ("nh", "out", ()), ("nh", "free", ("free",)),
                                  ("ne", "empty", ("empty",)), ("nh", "empty", ("empty",))):
            self.same(next_phases(plan, "firm", node, phase), late)
        self.same([ends(plan, "nh", phase) for phase in PHASES], [None, None, "stand", "stand", "free", "free"])

    def test_errors_in_order(self):
        plan = example_plan()
        for thing in THINGS:
            self.fails(NoGroup, (thing,), next_phases, plan, thing, thing, thing)
            self.fails(NoNode, (thing,), next_phases, plan, "firm", thing, thing)
            self.fails(NoPhase, (thing,), next_phases, plan, "firm", "gap", thing)
            self.fails(NoNode, (thing,), ends, plan, thing, thing)
            self.fails(NoPhase, (thing,), ends, plan, "gap", thing)
            self.fails(NoGroup, (thing,), openings, plan, thing)
            self.fails(NoGroup, (thing,), states, plan, thing)
            self.fails(NoGroup, (thing,), steps, plan, thing, (thing, thing))
            self.fails(NoPhase, (thing,), steps, plan, "firm", (None, thing))
            self.fails(NoPhase, (thing,), steps, plan, "firm", ["gap", thing])
            if thing is not None:
                self.fails(NoNode, (thing,), steps, plan, "firm", (thing, thing))


class TestSteps(Promises):
    def test_classes(self):
        step = Step("bar", ("bar", "stand"), DAY, None)
        self.same((step.node, step.state, step.end), ("bar", ("bar", "stand"), None))
        self.assertIs(step.table, DAY)
        self.assertTrue(step == Step("bar", ("bar", "stand"), plans.Table.full(OIL, 2), None))
        for other in (Step("gap", ("bar", "stand"), DAY, None), Step("bar", ("bar", "out"), DAY, None),
                      Step("bar", ("bar", "stand"), DEEP_TABLE, None), Step("bar", ("bar", "stand"), None, None),
                      Step("bar", ("bar", "stand"), DAY, "stand"), ("bar", ("bar", "stand"), DAY, None)) + THINGS:
            self.assertFalse(step == other)

    def test_the_example(self):
        plan = example_plan()
        found = steps(plan, "firm", ("shift", "stand"))
        self.assertEqual(found, (Step("bar", None, DAY, "stand"), Step("bar", ("bar", "stand"), DAY, None)))
        self.assertEqual(steps(plan, "firm", ["till", "holding"]), (Step("shift", ("shift", "holding"), None, None),))
        self.assertEqual(steps(plan, "firm", (None, "empty")), ())
        self.assertEqual(steps(plan, "firm", (None, "free")), (Step("gap", ("gap", "free"), None, None),))
        self.assertEqual(steps(plan, "firm", ("gap", "empty")), (
            Step("till", ("till", "holding"), None, None), Step("till", ("till", "stand"), None, None)))

    def test_all_states_of_random_plans(self):
        chance = random.Random(76)
        for _ in range(40):
            plan = random_plan(chance)
            for group, place, phase in product(plan.group_names, (None,) + plan.node_names, PHASES):
                found = steps(plan, group, (place, phase))
                self.assertIsInstance(found, tuple)
                self.same([(step.node, step.state, step.end) for step in found], told_steps(plan, group, (place, phase)))
                for step in found:
                    self.assertEqual(step.table, plan.edge_table(place, step.node))


class TestStates(Promises):
    def test_the_example(self):
        plan = example_plan()
        self.same(openings(plan, "firm"), ((None, "empty"), ("gap", "empty"), ("gap", "holding")))
        self.same(states(plan, "firm"), (
            (None, "empty"), ("gap", "empty"), ("gap", "holding"), ("gap", "stand"), ("till", "holding"),
            ("till", "stand"), ("shift", "holding"), ("shift", "stand"), ("bar", "holding"), ("bar", "stand")))

    def test_random_plans(self):
        chance = random.Random(77)
        for number in range(80):
            plan = busy_plan(chance) if number % 2 else random_plan(chance)
            for group in plan.group_names:
                self.same(openings(plan, group), told_openings(plan, group))
                self.same(states(plan, group), told_states(plan, group))

    def test_openings(self):
        # A telling that cannot be reached, one that nothing is held at, and one that follows itself.
        nodes = [("na", ("tell",), [("nb", None)]), ("nb", ("desk",), [("nc", None)]), ("nc", ("tell",), [("nc", None)]),
                 ("nd", ("tell",), [("na", None)])]
        plan = Plan(OIL, TABLES, GROUPS, nodes)
        self.same(openings(plan, "firm"), ((None, "empty"), ("na", "empty"), ("nc", "empty"), ("nc", "holding")))
        self.same(openings(chain_plan(("rest",)), "firm"), ((None, "empty"),))
        self.same(states(chain_plan(("rest",)), "firm"), ((None, "empty"), ("na", "empty")))

    def test_looks_at_other_groups(self):
        plan = chain_plan(("desk",), ("look", ("other",)), ("close",), groups=TWO_GROUPS)
        self.same(states(plan, "firm"), (
            (None, "empty"), ("na", "holding"), ("na", "stand"), ("nb", "holding"), ("nb", "stand"), ("nc", "holding"),
            ("nc", "stand")))
        self.same(states(plan, "other"), (
            (None, "empty"), ("na", "holding"), ("na", "stand"), ("nb", "holding"), ("nb", "stand"), ("nb", "out"),
            ("nc", "holding"), ("nc", "stand")))

    def test_great_plans(self):
        chance = random.Random(78)
        names = ["n" + letter for letter in "abcdefghijkl"]
        kinds = [("move", "day"), ("tell",), ("desk",), ("free",), ("look", ("firm",)), ("close",)] * 2
        nodes = [(name, step, [(other, None) for other in chance.sample(names, 4)]) for name, step in zip(names, kinds)]
        plan = Plan(OIL, TABLES, GROUPS, nodes)
        self.same(states(plan, "firm"), told_states(plan, "firm"))
        self.same(len(all_walks(plan, 2)), 4)


if __name__ == "__main__":
    unittest.main()
