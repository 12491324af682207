"""[6.6], [6.7] and the interface of coveredday.walks."""

import random
import unittest
from itertools import product

from coveredday.errors import NoNode, NoWalk
from coveredday.plan import Plan
from coveredday.tables import Table
from coveredday.tablesums import total
from coveredday.walks import reachable, shortest_walk, walk_fault, walk_table
from tests.common import THINGS, Promises
from tests.plans import DAY, DEEP_TABLE, GROUPS, OIL, TABLES, busy_plan, chain_plan, example_plan, random_plan


def follows(plan, behind, node):
    """Whether the plan has an edge from behind, or the start, to the node."""
    if behind is None:
        return node == plan.nodes[0][0]
    return node in [other for other, _ in dict((name, rows) for name, _, rows in plan.nodes)[behind]]


def is_walk(plan, walk, behind=None):
    return all(follows(plan, one, other) for one, other in zip((behind,) + tuple(walk), walk))


def all_walks(plan, length, behind=None):
    """All walks of just so many nodes behind a node."""
    walks = [()]
    for _ in range(length):
        walks = [walk + (node,) for walk in walks for node in plan if follows(plan, (walk or (behind,))[-1], node)]
    return walks


def move_ring(calm=None):
    """A plan in which one move node follows itself, or goes on to another one with a calm table."""
    nodes = [("ma", ("move", "deep"), [("ma", None), ("mb", calm)]), ("mb", ("move", "day"), [("ma", None)])]
    return Plan(OIL, TABLES, GROUPS, nodes)


class TestWalkFault(Promises):
    def test_all_rows_of_nodes(self):
        chance = random.Random(72)
        for _ in range(25):
            plan = random_plan(chance, 4)
            for length in range(4):
                for behind in (None,) + plan.node_names:
                    for walk in product(plan.node_names, repeat=length):
                        places = (behind,) + walk
                        wrong = [at for at in range(length) if not follows(plan, places[at], walk[at])]
                        expected = wrong[0] if wrong else None
                        self.same(walk_fault(plan, walk, behind), expected)
                        self.same(walk_fault(plan, list(walk), behind), expected)

    def test_any_object(self):
        plan = example_plan()
        for thing in THINGS:
            if not isinstance(thing, (list, tuple)):
                self.same(walk_fault(plan, thing), -1)
                self.same(walk_fault(plan, thing, "gap"), -1)
            elif thing:
                self.same(walk_fault(plan, thing), 0)
            self.same(walk_fault(plan, ["gap", "till", thing, thing]), 2)
            self.same(walk_fault(plan, (thing,), "till"), 0)
        self.same(walk_fault(plan, "gap"), -1)
        for empty in ((), []):
            self.same([walk_fault(plan, empty, behind) for behind in (None, "gap")], [None, None])

    def test_wrong_behind_comes_first(self):
        plan = example_plan()
        for thing in THINGS:
            if thing is not None:
                self.fails(NoNode, (thing,), walk_fault, plan, None, thing)
                self.fails(NoNode, (thing,), walk_table, plan, None, thing)

    def test_long_walks(self):
        plan = example_plan()
        walk = ("gap", "till", "shift", "bar") * 2500
        self.same(walk_fault(plan, walk), None)
        self.same(walk_fault(plan, walk + ("bar",)), 10000)
        self.same(walk_table(plan, walk)["oil", "cash"], 5000)
        self.same(walk_fault(move_ring(), ["ma"] * 5000 + ["mb", "mb"]), 5001)


class TestWalkTable(Promises):
    def test_all_walks(self):
        chance = random.Random(73)
        for _ in range(25):
            plan = random_plan(chance, 4)
            for length, behind in product(range(4), (None,) + plan.node_names):
                for walk in all_walks(plan, length, behind):
                    edges = zip((behind,) + walk, walk)
                    tables = [plan.edge_table(*edge) for edge in edges]
                    expected = total(plan.goods, *[table for table in tables if table is not None])
                    self.assertEqual(walk_table(plan, walk, behind), expected)
                    self.assertEqual(walk_table(plan, list(walk), behind), expected)

    def test_the_last_move_is_not_left_and_the_first_may_be(self):
        plan = move_ring("day")
        for walk, behind, most in (((), None, 0), (("ma",), None, 0), (("ma", "ma"), None, 4), (("ma",), "ma", 4),
                                   (("mb",), "ma", 2), (("mb", "ma"), "ma", 4), (("ma", "ma", "ma"), None, 8)):
            self.assertEqual(walk_table(plan, walk, behind), Table.full(OIL, most))

    def test_errors(self):
        plan = example_plan()
        for thing in THINGS:
            if not isinstance(thing, (list, tuple)):
                self.fails(NoWalk, (-1,), walk_table, plan, thing)
            self.fails(NoWalk, (1,), walk_table, plan, ["gap", thing])
        self.fails(NoWalk, (0,), walk_table, plan, ["till"])
        self.fails(NoWalk, (2,), walk_table, plan, ("shift", "bar", "bar"), "till")


class TestReachable(Promises):
    def test_against_all_walks(self):
        chance = random.Random(74)
        for _ in range(60):
            plan = random_plan(chance)
            ends = {walk[-1] for length in range(1, 6) for walk in all_walks(plan, length)}
            self.same(reachable(plan), tuple(node for node in plan if node in ends))

    def test_nodes_that_cannot_be_reached(self):
        nodes = [("na", ("rest",), [("na", None)]), ("nb", ("tell",), [("na", None)]), ("nc", ("rest",), [("nb", None)])]
        plan = Plan(OIL, TABLES, GROUPS, nodes)
        self.same(reachable(plan), ("na",))
        self.same([shortest_walk(plan, node, holding=False) for node in plan], [("na",), None, None])
        self.same(reachable(chain_plan(*[("rest",)] * 12)), tuple("n" + letter for letter in "abcdefghijkl"))


class TestShortestWalk(Promises):
    def look(self, plan, length):
        """Looks at all nodes against all walks of up to so many nodes."""
        trading = [node for node in plan if plan.kind(node) in ("desk", "free")]
        walks = [walk for count in range(1, length + 1) for walk in all_walks(plan, count)]
        for node, holding in product(plan, (False, True)):
            lengths = [len(walk) for walk in walks if walk[-1] == node
                       and (not holding or set(walk[:-1]) & set(trading))]
            walk = shortest_walk(plan, node, holding=holding)
            if walk is None:
                self.same(lengths, [])
            else:
                self.assertIsInstance(walk, tuple)
                self.assertTrue(is_walk(plan, walk) and walk[-1] == node)
                self.assertTrue(not holding or set(walk[:-1]) & set(trading))
                self.same(len(walk), min(lengths))

    def test_against_all_walks(self):
        chance = random.Random(75)
        for _ in range(25):
            self.look(random_plan(chance, 3), 7)
            self.look(busy_plan(chance, 4), 6)

    def test_the_node_itself_may_stand_ahead(self):
        plan = chain_plan(("desk",), ("tell",), back="na")
        self.same(shortest_walk(plan, "na", holding=True), ("na", "nb", "na"))
        self.same(shortest_walk(plan, "na", holding=False), ("na",))
        self.same(shortest_walk(plan, "nb", holding=True), ("na", "nb"))
        self.same(shortest_walk(chain_plan(("free",)), "na", holding=True), ("na", "na"))
        self.same(shortest_walk(chain_plan(("tell",)), "na", holding=True), None)

    def test_errors(self):
        for thing in THINGS:
            self.fails(NoNode, (thing,), shortest_walk, example_plan(), thing, holding=True)
            self.fails(NoNode, (thing,), shortest_walk, example_plan(), thing, holding=False)

    def test_tables_stay(self):
        plan = example_plan()
        reachable(plan)
        walk_table(plan, ("gap", "till", "shift", "bar"))
        self.assertTrue(plan == example_plan())
        self.assertEqual((plan.table_named("day"), plan.table_named("deep")), (DAY, DEEP_TABLE))


if __name__ == "__main__":
    unittest.main()
