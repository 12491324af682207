"""[10.14], [10.15] and the interface of coveredday.alike."""

import random
import unittest

from coveredday.alike import Alike, Unlike, alike
from coveredday.breach import Breach
from coveredday.changes import alone, changed, shorter
from coveredday.daymaker import day_of
from coveredday.errors import OtherGoods, OtherGroups, TooLong, TooManyTables
from coveredday.least import is_enough, least_table
from coveredday.plan import Plan
from coveredday.play import play
from coveredday.tables import Table
from coveredday.verdict import verdict
from tests.common import Promises
from tests.plans import DAY, DEEP_TABLE, OIL, TABLES, busy_plan, chain_plan, example_plan, forward_plan
from tests.test_changes import parts, random_change
from tests.test_phases import TWO_GROUPS

GREAT = 10 ** 15


class TestAlike(Promises):
    def look(self, one, other):
        """Looks at what is told of two plans; "alike", "pair" or "none"."""
        found = alike(one, other)
        tables = [(group, least_table(one, group), least_table(other, group)) for group in one.group_names]
        unlike = [row for row in tables if not (row[1] == row[2])]
        if not unlike:
            self.same((type(found), found.is_alike, type(found.least)), (Alike, True, tuple))
            self.same([group for group, _ in found.least], list(one.group_names))
            self.assertTrue([least for _, least in found.least] == [row[1] for row in tables])
            return "alike"
        group, first, second = unlike[0]
        self.same((type(found), found.is_alike, found.group, type(found.breach)), (Unlike, False, group, Breach))
        plans = (one, other)
        enough = [is_enough(plan, group, found.cover) for plan in plans]
        self.same(enough, [found.safe == 0, found.safe == 1])
        self.assertTrue(found.plan == alone(plans[1 - found.safe], group, found.cover))
        self.assertTrue(found.breach == verdict(found.plan))
        self.assertTrue(found.cover == (first, second)[found.safe])
        self.assertTrue(found.day() == day_of(found.plan, found.breach))
        self.same(play(found.plan, found.day()).paid_total, found.breach.excess)
        if first is None or second is None:
            self.same(found.pair, None)
            return "none"
        apart = [(up, down) for up, down, most in first.entries if most != second[up, down]]
        self.same(found.pair, apart[0])
        self.same((found.breach.up, found.breach.down, found.breach.end), found.pair + ("stand",))
        self.assertTrue((first, second)[found.safe][found.pair] < (first, second)[1 - found.safe][found.pair])
        return "pair"

    def test_random_plans(self):
        chance = random.Random(201)
        seen = {"alike": 0, "pair": 0, "none": 0}
        for number in range(260):
            plan = busy_plan(chance) if number % 4 == 0 else forward_plan(chance, 8)
            other = plan
            while other is plan:
                try:
                    other = changed(plan, [random_change(chance, plan) for _ in range(chance.randint(1, 3))])
                except ValueError:
                    continue
            seen[self.look(plan, other)] += 1
            seen[self.look(other, plan)] += 1
        self.assertTrue(min(seen.values()) > 10, seen)

    def test_shorter_plans_are_alike(self):
        chance = random.Random(202)
        for _ in range(60):
            plan = busy_plan(chance, 8)
            self.same(self.look(plan, shorter(plan)), "alike")
            self.same(self.look(plan, plan), "alike")

    def test_cover_tables_mean_nothing(self):
        plan = chain_plan(("desk",), ("move", "day"), ("close",), groups=TWO_GROUPS)
        other = chain_plan(("desk",), ("move", "day"), ("close",), groups=(("firm", "day"), ("other", "deep")))
        found = alike(plan, other)
        self.same((found.is_alike, [group for group, _ in found.least]), (True, ["firm", "other"]))
        self.assertTrue(all(least == DAY for _, least in found.least))

    def test_the_first_group_and_the_first_pair(self):
        steps = [("desk",), ("move", "day"), ("tell",), ("look", ("firm",)), ("close",), ("move", "day"), ("close",)]
        rows = [("cash", "oil", 2), ("oil", "cash", 2)]
        plans = [chain_plan(*steps, groups=TWO_GROUPS, tables=(("day", Table(OIL, told)), TABLES[1]))
                 for told in (rows, [("cash", "oil", 2), ("oil", "cash", 1)], [("cash", "oil", 3), ("oil", "cash", 1)])]
        found = alike(plans[0], plans[1])
        self.same((found.group, found.pair, found.safe), ("firm", ("oil", "cash"), 1))
        found = alike(plans[0], plans[2])
        self.same((found.group, found.pair, found.safe, found.breach.excess), ("firm", ("cash", "oil"), 0, found.breach.excess))
        self.assertTrue(found.cover == least_table(plans[0], "firm"))
        unseen = chain_plan(*[("rest",) if step[0] == "look" else step for step in steps], groups=TWO_GROUPS)
        self.same((alike(plans[0], unseen).group, alike(plans[0], unseen).safe, alike(unseen, plans[0]).safe), ("firm", 0, 1))
        self.same((least_table(plans[0], "other") == least_table(unseen, "other")), True)

    def test_only_one_has_a_least_table(self):
        plan = example_plan()
        other = changed(plan, [("step", "bar", ("rest",))])
        for one, two, safe in ((plan, other, 1), (other, plan, 0)):
            found = alike(one, two)
            self.same((found.is_alike, found.group, found.safe, found.pair), (False, "firm", safe, None))
            self.assertTrue(found.cover == Table.full(OIL, 0))
        self.same(self.look(plan, Plan(OIL, TABLES, (("firm", "day"),), plan.nodes)), "alike")

    def test_errors_in_their_order(self):
        plan = example_plan()
        rye = Plan(("rye",), [("day", Table.full(("rye",), 2)), ("deep", Table.full(("rye",), 4))], TWO_GROUPS, plan.nodes)
        self.fails(OtherGoods, (), alike, plan, rye)
        self.fails(OtherGroups, (), alike, plan, Plan(OIL, TABLES, TWO_GROUPS, plan.nodes))
        self.fails(OtherGroups, (), alike, Plan(OIL, TABLES, TWO_GROUPS, plan.nodes), Plan(OIL, TABLES, TWO_GROUPS[::-1], plan.nodes))
        self.fails(OtherGroups, (), alike, plan, Plan(OIL, TABLES, (("other", "deep"),), plan.nodes))

    def test_too_many_tables(self):
        names = "abcdefgh"
        nodes = [("na", ("desk",), [("ma", None)])]
        nodes += [("m" + name, ("move", name), [("m" + names[at + 1] if at < 7 else "end", None)]) for at, name in enumerate(names)]
        nodes += [("end", ("close",), [("end", None)])]
        one, other = [Plan(OIL, [(name, Table.full(OIL, most)) for name in names], [("firm", "a")], nodes) for most in (1, 2)]
        self.fails(TooManyTables, (9,), alike, one, other)
        self.same(alike(one, one).is_alike, True)

    def test_days_that_are_too_long(self):
        nodes = [("na", ("desk",), [("nb", None)]), ("nb", ("move", "one"), [("nb", None), ("nc", None)]), ("nc", ("close",), [("nc", None)])]
        far = Table.full(OIL, GREAT, cap=GREAT)
        one = Plan(OIL, [("one", Table.full(OIL, 1)), ("far", far)], (("firm", "far"),), nodes)
        other = Plan(OIL, [("one", far), ("far", DEEP_TABLE)], (("firm", "far"),), nodes[:1] + [("nb", ("move", "one"), [("nc", None)])] + nodes[2:])
        found = alike(one, other)
        self.same((found.safe, found.pair, found.breach.walk_length > 10 ** 15), (1, None, True))
        self.fails(TooLong, (found.breach.walk_length,), found.day)

    def test_what_is_passed_in_stays(self):
        one, other = example_plan(), changed(example_plan(), [("step", "bar", ("rest",))])
        before = repr((parts(one), parts(other)))
        alike(one, other)
        self.same(repr((parts(one), parts(other))), before)


if __name__ == "__main__":
    unittest.main()
