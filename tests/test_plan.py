"""[6.1] to [6.5] and the interface of coveredday.plan."""

import random
import unittest
from itertools import product

from coveredday.errors import BadGoods, BadPlan, NoEdge, NoGroup, NoNode, NoTable
from coveredday.plan import Plan
from coveredday.tables import Table
from tests.common import THINGS, Promises
from tests.plans import DAY, DEEP_TABLE, GROUPS, KINDS, NODES, OIL, TABLES, chain_plan, example_plan, random_plan
from tests.test_names import goods_word

NODE = ("na", ("rest",), (("na", None),))
LETTERS = "abcdefghijklm"


def fault(tables=TABLES, groups=GROUPS, nodes=(NODE,), goods=OIL):
    """The pair (what, at) of the error for a plan made of these, or None."""
    try:
        Plan(goods, tables, groups, nodes)
    except BadPlan as caught:
        assert list(vars(caught)) == ["what", "at"]
        return caught.what, caught.at
    return None


def is_a_name(thing):
    return isinstance(thing, str) and thing.isascii() and thing.isalpha() and thing.islower() and len(thing) <= 12


class TestMaking(Promises):
    def test_attributes(self):
        plan = example_plan()
        self.same(plan.goods, OIL)
        self.assertEqual((plan.tables, plan.groups, plan.nodes), (TABLES, GROUPS, NODES))
        self.same((plan.groups, plan.nodes), (GROUPS, NODES))
        self.same((plan.first, plan.table_names, plan.group_names), ("gap", ("day", "deep"), ("firm",)))
        self.same((plan.node_names, tuple(plan)), (("gap", "till", "shift", "bar"),) * 2)
        self.same(Plan.KINDS, KINDS)

    def test_tuples_throughout_and_no_list_is_kept(self):
        tables = [["day", DAY], ["deep", DEEP_TABLE]]
        groups = [["firm", "deep"], ["other", "day"]]
        look = ["look", ["other", "firm"]]
        nodes = [["na", ["move", "day"], [["nb", "deep"], ["na", None]]], ["nb", look, [["na", None]]]]
        plan = Plan(["oil"], tables, groups, nodes)
        told = (("na", ("move", "day"), (("nb", "deep"), ("na", None))), ("nb", ("look", ("other", "firm")), (("na", None),)))
        look[1].pop()
        nodes[0][2].pop()
        nodes.pop()
        groups[0][1] = "day"
        tables.pop()
        self.same(plan.nodes, told)
        self.same(plan.groups, (("firm", "deep"), ("other", "day")))
        self.assertEqual(plan.tables, (("day", DAY), ("deep", DEEP_TABLE)))
        self.assertIsInstance(plan.tables[0], tuple)
        self.same((plan.looks_at("nb", "firm"), plan.step("nb")), (True, ("look", ("other", "firm"))))

    def test_the_greatest_plan(self):
        tables = [("t" + letter, DAY) for letter in LETTERS[:8]]
        groups = [("g" + letter, "th") for letter in LETTERS[:3]]
        names = ["n" + letter for letter in LETTERS[:12]]
        nodes = [(name, ("move", "ta"), [(other, "tb") for other in names[-4:]]) for name in names]
        plan = Plan(OIL, tables, groups, nodes)
        self.same((len(plan.tables), len(plan.groups), len(plan.nodes)), (8, 3, 12))
        self.same(plan.followers("na"), tuple((name, "tb") for name in names[-4:]))

    def test_one_name_for_a_table_a_group_and_a_node(self):
        plan = Plan(OIL, [("one", DAY)], [("one", "one")], [("one", ("look", ["one"]), [("one", None)])])
        self.same((plan.looks_at("one", "one"), plan.first), (True, "one"))
        cash = Plan(OIL, [("cash", DAY)], [("oil", "cash")], [("cash", ("move", "cash"), [("cash", "cash")])])
        self.same(cash.kind("cash"), "move")

    def test_wrong_goods_come_first(self):
        for thing in THINGS:
            if goods_word(thing) is not None:
                self.fails(BadGoods, (goods_word(thing),), Plan, thing, None, None, None)

    def test_equal_plans(self):
        plan = example_plan()
        listed = Plan(["oil"], [list(row) for row in TABLES], [["firm", "deep"]], [list(row) for row in NODES])
        self.assertTrue(plan == listed)
        rows = (("oil", "cash", 2), ("cash", "oil", 2))
        self.assertTrue(plan == Plan(OIL, [("day", Table(OIL, rows)), TABLES[1]], GROUPS, NODES))
        others = [Plan(OIL, [("day", Table.full(OIL, 3)), TABLES[1]], GROUPS, NODES),
                  Plan(OIL, TABLES, [("firm", "day")], NODES), Plan(OIL, TABLES, GROUPS, NODES[:3] + (
                      ("bar", ("rest",), (("gap", None),)),)), Plan(OIL, TABLES + (("more", DAY),), GROUPS, NODES)]
        for other in others + list(THINGS) + [NODES, (OIL, TABLES, GROUPS, NODES)]:
            self.assertFalse(plan == other)


class TestWrongTables(Promises):
    def test_word_tables(self):
        for thing in THINGS + ([], (), TABLES * 5):
            if not (isinstance(thing, (list, tuple)) and 1 <= len(thing) <= 8):
                self.same(fault(tables=thing, groups=None, nodes=None), ("tables", None))
        self.same(fault(tables=[("t" + letter, DAY) for letter in LETTERS[:9]]), ("tables", None))

    def test_word_table(self):
        for thing in THINGS:
            self.same(fault(tables=TABLES + (thing,), groups=None), ("table", 2))
            self.same(fault(tables=[("more", thing), None]), ("table", 0))
            expected = None if is_a_name(thing) else ("table", 2)
            self.same(fault(tables=TABLES + ((thing, DAY),)), expected)
        self.same(fault(tables=TABLES + (("day", Table.full(("rye",), 1)),)), ("table", 2))
        self.same(fault(tables=[("day", DAY, 1)]), ("table", 0))

    def test_word_goods(self):
        for goods in (("rye",), ("oil", "rye")):
            self.same(fault(tables=TABLES + (("more", Table.full(goods, 1)), None), groups=None), ("goods", 2))
        pair = ("oil", "rye")
        table = Table.full(pair[::-1], 1)
        self.same(fault(tables=[("one", table)], goods=pair), ("goods", 0))


class TestWrongGroups(Promises):
    def test_word_groups(self):
        for thing in THINGS + (GROUPS * 4,):
            if not (isinstance(thing, (list, tuple)) and 1 <= len(thing) <= 3):
                self.same(fault(groups=thing, nodes=None), ("groups", None))
        self.same(fault(groups=[("g" + letter, "day") for letter in LETTERS[:4]]), ("groups", None))

    def test_word_group(self):
        for thing in THINGS:
            if not (isinstance(thing, (list, tuple)) and len(thing) == 2):
                self.same(fault(groups=GROUPS + (thing,), nodes=None), ("group", 1))
            self.same(fault(groups=[(thing, "day"), None]), ("group", 1 if is_a_name(thing) else 0))
        self.same(fault(groups=GROUPS + (("firm", None),)), ("group", 1))
        self.same(fault(groups=[("firm", "day", 1)]), ("group", 0))

    def test_word_cover(self):
        for thing in THINGS + ("firm",):
            self.same(fault(groups=GROUPS + (("other", thing), None), nodes=None), ("cover", 1))


class TestWrongNodes(Promises):
    def node(self, expected, step=("rest",), followers=(("na", None),)):
        """Looks at a second node with this step and these followers, behind a right one."""
        told = fault(nodes=[NODE, ("nb", step, followers)], groups=[("firm", "deep"), ("other", "day")])
        self.same(told, None if expected is None else (expected, 1))

    def test_word_nodes(self):
        for thing in THINGS:
            if not (isinstance(thing, (list, tuple)) and 1 <= len(thing) <= 12):
                self.same(fault(nodes=thing), ("nodes", None))
        self.same(fault(nodes=[("n" + letter,) + NODE[1:] for letter in LETTERS]), ("nodes", None))

    def test_word_node(self):
        for thing in THINGS:
            # All names are looked at ahead of all steps.
            wrong = ("nb", None, None)
            if not (isinstance(thing, (list, tuple)) and len(thing) == 3):
                self.same(fault(nodes=[wrong, thing, None]), ("node", 1))
            expected = ("step", 0) if is_a_name(thing) else ("node", 1)
            self.same(fault(nodes=[wrong, (thing, None, None)]), expected)
        self.same(fault(nodes=[NODE, NODE]), ("node", 1))
        self.same(fault(nodes=[NODE + (1,)]), ("node", 0))

    def test_word_step(self):
        for thing in THINGS:
            self.node("step", thing, None)
            self.node("step", (thing,), None)
            self.node("step", ("move", thing), None)
            self.node("step", ("look", thing), None)
            self.node("step", ("look", [thing]), None)
            self.node("step", ("look", ["firm", thing]), None)
            self.node("step", ("rest", thing), None)
            self.node("step", (thing, "day"), None)
        for step in ((), ("move",), ("look",), ("move", "day", "day"), ("move", "firm"), ("move", ("day",)),
                     ("look", "firm"), ("look", ()), ("look", ("firm", "firm")), ("look", ("day",)),
                     ("look", ("firm",), ("other",)), ("tell", None), ("Tell",), (("tell",),)):
            self.node("step", step)
            self.node("step", list(step))

    def test_right_steps(self):
        for step in [(kind,) for kind in KINDS if kind not in ("move", "look")] + [
                ("move", "day"), ("move", "deep"), ("look", ("firm",)), ("look", ["other", "firm"])]:
            self.node(None, step)
            self.node(None, list(step))

    def test_word_followers(self):
        for thing in THINGS:
            if not (isinstance(thing, (list, tuple)) and 1 <= len(thing) <= 4):
                self.node("followers", followers=thing)
        self.node("followers", followers=[("na", None)] * 5)

    def test_word_follower(self):
        for thing in THINGS:
            if not (isinstance(thing, (list, tuple)) and len(thing) == 2):
                self.node("follower", followers=[("na", None), thing, None])
            self.node("follower", followers=[("nb", None), (thing, thing), None])
        self.node("follower", followers=[("na", None), ("na", None)])
        self.node("follower", followers=[("na", None, None)])
        self.node("follower", ("move", "day"), [("na", None), ("na", "nothing")])

    def test_word_calm(self):
        for thing in THINGS + ("firm", "na"):
            if thing is not None:
                self.node("calm", ("move", "day"), [("na", thing), None])
                self.node("calm", followers=[("na", thing), None])
        self.node("calm", followers=[("na", "day")])
        self.node("calm", ("look", ("firm",)), [("nb", None), ("na", "day")])
        self.node(None, ("move", "day"), [("nb", "deep"), ("na", "day")])

    def test_followers_one_after_the_other(self):
        self.node("calm", followers=[("na", "day"), ("na", None)])
        self.node("follower", followers=[("nc", "day"), ("na", "day")])
        self.same(fault(nodes=[("na", ("tell",), [("na", "day")]), ("nb", None, None)]), ("calm", 0))
        self.same(fault(nodes=[("na", ("tell",), [("nb", None)]), ("nb", None, None)]), ("step", 1))


class TestQuestions(Promises):
    def test_kinds_and_steps(self):
        plan = example_plan()
        self.same([plan.kind(node) for node in plan], ["tell", "desk", "move", "close"])
        self.same([plan.step(node) for node in plan], [("tell",), ("desk",), ("move", "day"), ("close",)])

    def test_looks_at(self):
        groups = [("ga", "day"), ("gb", "day"), ("gc", "deep")]
        plan = chain_plan(("look", ("gc", "ga")), ("look", ("gb",)), ("rest",), groups=groups)
        looks = {(node, group): plan.looks_at(node, group) for node in plan for group in plan.group_names}
        right = {("na", "gc"), ("na", "ga"), ("nb", "gb")}
        self.assertEqual(looks, {pair: pair in right for pair in product(plan, ("ga", "gb", "gc"))})

    def test_followers(self):
        plan = example_plan()
        self.same([plan.followers(node) for node in (None,) + plan.node_names], [
            (("gap", None),), (("till", None),), (("shift", None),), (("bar", None),), (("gap", None),)])

    def test_edge_tables(self):
        goods = ("a", "b")
        one = Table(goods, (("cash", "a", 1), ("a", "b", 5), ("b", "cash", 5), ("a", "cash", 9)))
        calm = Table(goods, (("a", "cash", 0), ("cash", "a", 9), ("cash", "b", 0), ("b", "cash", 2)))
        nodes = [("na", ("move", "one"), [("nb", "calm"), ("na", None), ("nc", "one")]),
                 ("nb", ("tell",), [("na", None)]), ("nc", ("rest",), [("nb", None)])]
        plan = Plan(goods, [("one", one), ("calm", calm)], [("firm", "one")], nodes)
        self.assertEqual(plan.edge_table("na", "nb"), one & calm)
        self.assertEqual(plan.edge_table("na", "na"), one)
        self.assertEqual(plan.edge_table("na", "nc"), one)
        for pair in ((None, "na"), ("nb", "na"), ("nc", "nb")):
            self.assertIsNone(plan.edge_table(*pair))
        for pair in (("nb", "nb"), ("nb", "nc"), (None, "nb"), ("nc", "nc")):
            self.fails(NoEdge, pair, plan.edge_table, *pair)

    def test_tables_of_edges_of_random_plans(self):
        chance = random.Random(71)
        for _ in range(40):
            plan = random_plan(chance)
            tables = dict(plan.tables)
            for name, step, followers in plan.nodes:
                self.same((plan.step(name), plan.followers(name)), (step, followers))
                for other in plan:
                    if other not in dict(followers):
                        self.fails(NoEdge, (name, other), plan.edge_table, name, other)
                    elif step[0] != "move":
                        self.assertIsNone(plan.edge_table(name, other))
                    else:
                        calm = dict(followers)[other]
                        expected = tables[step[1]] if calm is None else tables[step[1]] & tables[calm]
                        self.assertEqual(plan.edge_table(name, other), expected)

    def test_tables_by_their_names(self):
        plan = example_plan()
        self.assertEqual([plan.table_named("day"), plan.table_named("deep"), plan.cover_table("firm")],
                         [DAY, DEEP_TABLE, DEEP_TABLE])

    def test_names_that_are_not_there(self):
        plan = example_plan()
        for thing in THINGS + ("firm", "day"):
            for call in (plan.kind, plan.step):
                self.fails(NoNode, (thing,), call, thing)
            self.fails(NoNode, (thing,), plan.looks_at, thing, None)
            self.fails(NoNode, (thing,), plan.edge_table, "gap", thing)
            if thing is not None:
                self.fails(NoNode, (thing,), plan.followers, thing)
                self.fails(NoNode, (thing,), plan.edge_table, thing, "nowhere")
            else:
                self.fails(NoNode, (None,), plan.edge_table, None, None)
            if thing != "firm":
                self.fails(NoGroup, (thing,), plan.looks_at, "gap", thing)
                self.fails(NoGroup, (thing,), plan.cover_table, thing)
            if thing != "day":
                self.fails(NoTable, (thing,), plan.table_named, thing)


if __name__ == "__main__":
    unittest.main()
