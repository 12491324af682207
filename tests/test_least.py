"""[10.1] to [10.4] and the interface of coveredday.least."""

import random
import unittest

from coveredday.errors import BadEnd, Endless, LowTable, NoAsset, NoGroup, OtherGoods, SamePair
from coveredday.least import is_enough, least_table, reason, spare
from coveredday.longest import longest
from coveredday.plan import Plan
from coveredday.tables import Table
from coveredday.verdict import verdict
from coveredday.windows import Window, window_fault, window_table
from tests.common import THINGS, Promises, all_pairs, random_rows
from tests.plans import DEEP_TABLE, GROUPS, OIL, TABLES, busy_plan, chain_plan, example_plan, forward_plan, random_plan
from tests.test_phases import TWO_GROUPS
from tests.test_windows import all_windows

HUGE = 10 ** 40
ENDS = ("stand", "free")


def with_cover(plan, group, table):
    """The plan with this table as the group's cover table, under a new name."""
    groups = [(name, "new" if name == group else old) for name, old in plan.groups]
    return Plan(plan.goods, list(plan.tables) + [("new", table)], groups, plan.nodes)


def pays_for(plan, group):
    """Whether the house can be made to pay for a member of the group, by the greatest sums."""
    for end in ENDS:
        for up, down in all_pairs(plan.goods):
            most = longest(plan, group, end, up, down)
            allowed = plan.cover_table(group)[up, down] if end == "stand" else 0
            if most is None or most > allowed:
                return True
    return False


class TestLeastTables(Promises):
    def look(self, plan, group):
        """Looks at the least table of a group; whether it has one."""
        free = [longest(plan, group, "free", up, down) for up, down in all_pairs(plan.goods)]
        stand = [longest(plan, group, "stand", up, down) for up, down in all_pairs(plan.goods)]
        found = least_table(plan, group)
        if set(free) != {0} or None in stand:
            self.same((found, spare(plan, group)), (None, None))
            self.same(is_enough(plan, group, Table.full(plan.goods, HUGE, cap=HUGE)), False)
            return False
        self.same([most for _, _, most in found.entries], stand)
        self.same(found.rows, found.entries)
        cover = plan.cover_table(group)
        self.same(spare(plan, group), tuple((up, down, cover[up, down] - most) for up, down, most in found.entries))
        self.same((is_enough(plan, group, found), is_enough(plan, group, cover)), (True, found.within(cover)))
        self.same(pays_for(with_cover(plan, group, found), group), False)
        for up, down, most in found.entries:
            if most > 0:
                lesser = found.lowered(up, down)
                self.same((is_enough(plan, group, lesser), pays_for(with_cover(plan, group, lesser), group)), (False, True))
            else:
                self.fails(LowTable, (up, down), found.lowered, up, down)
        return True

    def test_random_plans(self):
        chance = random.Random(171)
        counts = {True: 0, False: 0}
        for number in range(120):
            plan = (busy_plan, forward_plan, forward_plan, random_plan)[number % 4](chance, 7)
            for group in plan.group_names:
                counts[self.look(plan, group)] += 1
                other = Table(plan.goods, random_rows(chance, plan.goods, (0, 1, 3, 6)))
                self.same(is_enough(plan, group, other), not pays_for(with_cover(plan, group, other), group))
        self.assertGreater(min(counts.values()), 30)

    def test_the_cover_table_means_nothing(self):
        chance = random.Random(172)
        for _ in range(40):
            plan = forward_plan(chance, 7)
            for group in plan.group_names:
                other = with_cover(plan, group, Table(plan.goods, random_rows(chance, plan.goods, (0, 1, 5))))
                self.same(least_table(plan, group) == least_table(other, group), True)

    def test_without_windows(self):
        plan = chain_plan(("tell",), ("move", "day"), ("desk",), groups=TWO_GROUPS)
        for group in plan.group_names:
            self.assertTrue(least_table(plan, group) == Table.full(OIL, 0))
        self.same(spare(plan, "other"), (("cash", "oil", 2), ("oil", "cash", 2)))

    def test_without_a_least_table(self):
        """An endless stand, and a free end with a sum above 0, be it ever so small."""
        self.same((least_table(example_plan(), "firm"), spare(example_plan(), "firm")), (None, None))
        tiny = Table(OIL, [("oil", "cash", 1), ("cash", "oil", 0)])
        plan = Plan(OIL, TABLES + (("tiny", tiny),), GROUPS, [
            ("na", ("free",), [("nb", None)]), ("nb", ("move", "tiny"), [("nc", None)]), ("nc", ("close",), [("nc", None)])])
        self.same((least_table(plan, "firm"), is_enough(plan, "firm", DEEP_TABLE)), (None, False))
        still = Plan(OIL, TABLES + (("tiny", Table.full(OIL, 0)),), GROUPS, plan.nodes)
        self.assertTrue(least_table(still, "firm") == Table.full(OIL, 0))

    def test_spares_below_0(self):
        plan = chain_plan(("desk",), ("move", "deep"), ("move", "day"), ("close",), groups=TWO_GROUPS)
        self.same((spare(plan, "firm"), spare(plan, "other")), (
            (("cash", "oil", -2), ("oil", "cash", -2)), (("cash", "oil", -4), ("oil", "cash", -4))))

    def test_entries_beyond_10_to_the_12(self):
        """Such a table is used like any other."""
        far = Table.full(OIL, 10 ** 12)
        plan = Plan(OIL, [("far", far)], [("firm", "far")], [
            ("na", ("desk",), [("nb", None)]), ("nb", ("move", "far"), [("nc", None)]), ("nc", ("move", "far"), [("nd", None)]),
            ("nd", ("close",), [("nd", None)])])
        found = least_table(plan, "firm")
        self.same(found.entries, (("cash", "oil", 2 * 10 ** 12), ("oil", "cash", 2 * 10 ** 12)))
        other = with_cover(plan, "firm", found)
        self.same((verdict(plan).is_safe, verdict(other).is_safe, spare(other, "firm")), (False, True, (("cash", "oil", 0), ("oil", "cash", 0))))
        moving = Plan(OIL, [("far", found)], [("firm", "far")], plan.nodes)
        self.same(least_table(moving, "firm")["cash", "oil"], 4 * 10 ** 12)
        self.same(is_enough(plan, "firm", found.lowered("oil", "cash")), False)

    def test_errors(self):
        for thing in THINGS:
            self.fails(NoGroup, (thing,), least_table, example_plan(), thing)
            self.fails(NoGroup, (thing,), spare, example_plan(), thing)
            self.fails(NoGroup, (thing,), is_enough, example_plan(), thing, Table.full(("rye",), 1))
        for plan in (example_plan(), chain_plan(("desk",), ("move", "day"), ("close",))):
            for goods in (("rye",), ("oil", "rye")):
                self.fails(OtherGoods, (), is_enough, plan, "firm", Table.full(goods, HUGE, cap=HUGE))


class TestReasons(Promises):
    def look(self, plan, group, end, up, down, found):
        """Looks at a reason; found are all windows of up to some length, if these are all."""
        most = longest(plan, group, end, up, down)
        if most is None:
            self.fails(Endless, (group, end, up, down), reason, plan, group, end, up, down)
            return
        window = reason(plan, group, end, up, down)
        if window is None:
            self.same([one for one in found if one[2] == end], [])
            self.same(most, 0)
            return
        self.same((type(window), window.group, window.end, window_fault(plan, window)), (Window, group, end, None))
        self.same(window_table(plan, window)[up, down], most)
        sums = [(len(walk), window_table(plan, Window(group, opening, walk, end))[up, down]) for opening, walk, one in found if one == end]
        self.same([length for length, one in sums if one >= most and length < len(window.walk)], [])

    def test_random_plans(self):
        chance = random.Random(173)
        for number in range(70):
            plan = (busy_plan, forward_plan, random_plan)[number % 3](chance, 6)
            for group in plan.group_names:
                found = all_windows(plan, group, 5)
                for end in ENDS:
                    for up, down in all_pairs(plan.goods):
                        self.look(plan, group, end, up, down, found)

    def test_the_fewest_nodes_of_all_openings(self):
        """The way from the start is longer than the one from the second telling; both have the same sum."""
        steps = (("rest",), ("rest",), ("desk",), ("look", ("other",)), ("tell",), ("desk",), ("move", "day"), ("close",))
        plan = chain_plan(*steps, groups=TWO_GROUPS)
        found = reason(plan, "firm", "stand", "oil", "cash")
        self.same((found.walk, found.opening[0]), (("nf", "ng", "nh"), "ne"))
        self.same(reason(plan, "firm", "free", "oil", "cash"), None)
        still = Plan(OIL, (("day", Table.full(OIL, 0)), TABLES[1]), TWO_GROUPS, plan.nodes)
        self.same(len(reason(still, "firm", "stand", "cash", "oil").walk), 3)

    def test_errors_in_their_order(self):
        plan = example_plan()
        for thing in THINGS:
            self.fails(NoGroup, (thing,), reason, plan, thing, thing, thing, thing)
            self.fails(BadEnd, (thing,), reason, plan, "firm", thing, thing, thing)
            if thing not in ("cash", "oil"):
                self.fails(NoAsset, (thing,), reason, plan, "firm", "stand", thing, thing)
                self.fails(NoAsset, (thing,), reason, plan, "firm", "stand", "oil", thing)
        for up, down, wrong in (("x", "y", "x"), ("x", "oil", "x"), ("oil", "y", "y"), ("x", "x", "x")):
            for end in ENDS:
                self.fails(NoAsset, (wrong,), reason, plan, "firm", end, up, down)
        self.fails(SamePair, ("cash",), reason, plan, "firm", "stand", "cash", "cash")
        self.fails(SamePair, ("oil",), reason, plan, "firm", "free", "oil", "oil")
        self.fails(Endless, ("firm", "stand", "oil", "cash"), reason, plan, "firm", "stand", "oil", "cash")
        self.same(reason(plan, "firm", "free", "oil", "cash"), None)


if __name__ == "__main__":
    unittest.main()
