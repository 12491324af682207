"""[0.1], [7.1], [7.5], [7.9] and the interface of coveredday.verdict."""

import random
import unittest

from coveredday.breach import Breach
from coveredday.daymaker import day_of
from coveredday.longest import longest, potentials
from coveredday.plan import Plan
from coveredday.safe import Safe
from coveredday.tables import Table
from coveredday.verdict import verdict
from coveredday.verdictjudge import breach_fault, safe_fault
from tests.common import Promises, moves_within
from tests.plans import GROUPS, OIL, TABLES, busy_plan, chain_plan, example_plan, forward_plan, random_plan
from tests.smallhouse import Refused, SmallHouse, played
from tests.test_longest import raised, sums_of, window_sum
from tests.test_phases import told_openings
from tests.test_safe import safe_plan
from tests.test_windows import all_windows


def allowed(plan, group, end, up, down):
    return plan.table_named(dict(plan.groups)[group])[up, down] if end == "stand" else 0


def first_breach(plan):
    """The first (group, end, up, down) whose sum is too great, with that sum or None if it is endless; or None."""
    for row in sums_of(plan):
        numbers, is_endless = raised(plan, *row)
        most = max(numbers.get(opening, 0) for opening in told_openings(plan, row[0]))
        if is_endless or most > allowed(plan, *row):
            return row, None if is_endless else most
    return None


def random_day(chance, plan, steps):
    """What the house pays on a random day on which members do what they like."""
    members = [(name, chance.choice(plan.group_names), chance.choice((0, 1, 2, 4, 9))) for name in ("ann", "bob", "cyd")]
    house = SmallHouse(plan, [chance.randint(-2, 2) for _ in plan.goods], members)
    moves = {name: list(moves_within(table)) for name, table in plan.tables}
    for _ in range(steps):
        node = plan.first if house.place is None else chance.choice([other for other, _ in plan.followers(house.place)])
        tried = [("enter", node, chance.choice(moves[plan.step(node)[1]]) if plan.kind(node) == "move" else None)]
        for _ in range(3):
            one, other = chance.sample([name for name, _, _ in members], 2)
            thing = chance.choice(plan.goods)
            price = house.told[plan.goods.index(thing)]
            tried += chance.choice((
                [("order", one, thing, "sell", 2, price), ("order", other, thing, "buy", 2, price)],
                [("order", one, thing, "sell", 1, price), ("order", other, thing, "buy", 1, price)],
                [("trade", one, other, thing, chance.randint(1, 2))], [("pay_out", one, chance.randint(1, 3))],
                [("pay_in", one, 2)] if chance.random() < 0.3 else [], [("notice", one)] if chance.random() < 0.1 else []))
        for deed in tried:
            try:
                house.do(deed)
            except Refused:
                pass
    return house.paid


class TestVerdict(Promises):
    def look(self, plan):
        """Looks at the verdict on a plan; returns its kind."""
        told, expected = verdict(plan), first_breach(plan)
        if expected is None:
            self.assertIs(type(told), Safe)
            self.same(safe_fault(plan, told.papers), None)
            self.same(told.papers, tuple(row + (potentials(plan, *row),) for row in sums_of(plan)))
            return "safe"
        row, most = expected
        self.assertIs(type(told), Breach)
        self.same((told.group, told.end, told.up, told.down), row)
        self.same(breach_fault(plan, told), None)
        if most is not None:
            self.same((told.turns, told.excess), (0, most - allowed(plan, *row)))
            return "straight"
        if told.turns == 0:
            return "endless"
        ring = window_sum(plan, (told.ring[-1], told.phase), told.ring, told.up, told.down)
        self.assertLessEqual(told.excess, ring)
        return "turning"

    def test_random_plans(self):
        chance = random.Random(93)
        makers = (busy_plan, random_plan, forward_plan)
        kinds = [self.look(chance.choice(makers)(chance)) for _ in range(250)]
        for kind in ("safe", "straight", "endless", "turning"):
            self.assertGreater(kinds.count(kind), 3, kind)

    def test_against_all_windows_of_some_length(self):
        chance = random.Random(94)
        for _ in range(80):
            plan = busy_plan(chance, 5)
            told = verdict(plan)
            rows = sums_of(plan)
            for group, end, up, down in rows:
                if not told.is_safe and (group, end, up, down) == (told.group, told.end, told.up, told.down):
                    break
                found = [window_sum(plan, opening, walk, up, down)
                         for opening, walk, kind in all_windows(plan, group, 5) if kind == end]
                self.assertLessEqual(max(found, default=0), allowed(plan, group, end, up, down))

    def test_safe_plans_never_pay(self):
        chance = random.Random(95)
        days = 0
        while days < 150:
            plan = busy_plan(chance, 6)
            if verdict(plan).is_safe:
                self.same(random_day(chance, plan, 40), 0)
                days += 1
        for _ in range(20):
            self.same(random_day(chance, safe_plan(), 40), 0)

    def test_random_days_of_other_plans_often_pay(self):
        # So the days of the test above would find it if a plan were called safe that is not.
        chance = random.Random(96)
        plans = [plan for plan in [busy_plan(chance, 6) for _ in range(60)] if not verdict(plan).is_safe]
        paying = [plan for plan in plans if any(random_day(chance, plan, 40) for _ in range(8))]
        self.assertGreater(2 * len(paying), len(plans))


class TestSums(Promises):
    def plan(self, most, entries=(2, 2), looks=()):
        """A plan with two moves in each window and a cover table with the number most."""
        tables = [("cover", Table.full(OIL, most)), ("one", Table.full(OIL, entries[0])), ("other", Table.full(OIL, entries[1]))]
        steps = (("tell",), ("desk",), ("move", "one")) + looks + (("move", "other"), ("close",))
        return chain_plan(*steps, tables=tables, groups=(("firm", "cover"),), back="n" + "abcdefgh"[len(steps) - 1])

    def test_just_the_allowance_and_one_above_it(self):
        self.same(verdict(self.plan(4)).is_safe, True)
        told = verdict(self.plan(3))
        self.same((told.end, told.up, told.down, told.excess), ("stand", "cash", "oil", 1))
        self.same((told.lead + told.first, told.turns), (("na", "nb", "nc", "nd", "ne"), 0))
        self.same(verdict(self.plan(0)).excess, 4)
        self.same(verdict(self.plan(10, (10, 1))).excess, 1)
        self.same(verdict(self.plan(11, (10, 1))).is_safe, True)

    def test_a_look_without_a_telling_asks_for_nothing_more(self):
        self.same(verdict(self.plan(3, looks=(("look", ("firm",)),))).excess, 1)

    def test_the_first_pair(self):
        table = Table(OIL, (("cash", "oil", 1), ("oil", "cash", 2)))
        tables = [("cover", Table.full(OIL, 1)), ("one", table)]
        plan = chain_plan(("desk",), ("move", "one"), ("close",), tables=tables, groups=(("firm", "cover"),))
        told = verdict(plan)
        self.same((told.up, told.down, told.opening, told.lead, told.excess), ("oil", "cash", (None, "empty"), (), 1))

    def test_free_ahead_of_stand_and_groups_in_order(self):
        plan = chain_plan(("free",), ("move", "day"), ("close",), groups=(("firm", "day"), ("other", "deep")))
        told = verdict(plan)
        self.same((told.group, told.end, told.up, told.down, told.excess), ("firm", "free", "cash", "oil", 2))
        plan = chain_plan(("desk",), ("move", "deep"), ("close",), groups=(("other", "deep"), ("firm", "day")))
        self.same((verdict(plan).group, verdict(plan).end, verdict(plan).excess), ("firm", "stand", 2))

    def test_the_opening_with_the_greatest_sum(self):
        tables = TABLES + (("none", Table.full(OIL, 0)), ("one", Table.full(OIL, 1)))
        nodes = [("na", ("rest",), [("nb", None), ("nf", None)]), ("nb", ("tell",), [("nc", None)]),
                 ("nc", ("desk",), [("nd", None)]), ("nd", ("move", "one"), [("ne", None)]),
                 ("ne", ("close",), [("ne", None)]), ("nf", ("tell",), [("ng", None)]),
                 ("ng", ("desk",), [("nh", None)]), ("nh", ("move", "deep"), [("ne", None)])]
        plan = Plan(OIL, tables, [("firm", "none")], nodes)
        told = verdict(plan)
        self.same((told.opening, told.excess, breach_fault(plan, told)), (("nf", "empty"), 4, None))
        self.same(played(plan, day_of(plan, told)).paid, 4)

    def test_a_lead_on_which_something_is_held(self):
        # Who stands since the desk is closed out behind the look; who holds something may stand since then.
        nodes = [("na", ("rest",), [("nc", None), ("nb", None)]), ("nb", ("desk",), [("nc", None)]),
                 ("nc", ("tell",), [("nd", None)]), ("nd", ("look", ("firm",)), [("ne", None)]),
                 ("ne", ("close",), [("nf", None)]), ("nf", ("move", "deep"), [("ng", None)]),
                 ("ng", ("close",), [("ng", None)])]
        plan = Plan(OIL, TABLES, [("firm", "day")], nodes)
        told = verdict(plan)
        self.same((told.opening, told.lead, told.excess), (("nc", "holding"), ("na", "nb", "nc"), 2))
        self.same(breach_fault(plan, told), None)
        self.same(played(plan, day_of(plan, told)).paid, 2)

    def test_endless_sums_with_great_allowances(self):
        nodes = [("na", ("desk",), [("nb", None)]), ("nb", ("move", "one"), [("nb", None), ("nc", None)]),
                 ("nc", ("close",), [("nc", None)])]
        for most in (0, 1, 2, 3, 10 ** 12):
            tables = [("one", Table.full(OIL, 1)), ("cover", Table.full(OIL, most))]
            plan = Plan(OIL, tables, [("firm", "cover")], nodes)
            told = verdict(plan)
            self.same(longest(plan, "firm", "stand", "oil", "cash"), None)
            self.same((breach_fault(plan, told), told.turns, told.excess), (None, most, 1))
            if most:
                self.same((told.ring, told.phase), (("nb",), "stand"))
            else:
                self.same((told.ring, told.phase), ((), None))

    def test_the_example(self):
        told = verdict(example_plan())
        self.same((told.group, told.end, told.up, told.down, told.turns, told.excess), ("firm", "stand", "cash", "oil", 2, 2))
        nodes = example_plan().nodes
        looked = nodes[:2] + (("shift", ("move", "day"), (("look", None),)), nodes[3]) + (
            ("look", ("look", ("firm",)), (("bar", None),)),)
        told = verdict(Plan(OIL, TABLES, GROUPS, looked))
        self.same(told.is_safe, True)

    def test_no_answer_depends_on_what_was_asked_before(self):
        chance = random.Random(97)
        made = [busy_plan(chance) for _ in range(15)]
        first = [repr(sorted(vars(verdict(plan)).items())) for plan in made]
        again = [repr(sorted(vars(verdict(plan)).items())) for plan in made[::-1]]
        self.same(again[::-1], first)


if __name__ == "__main__":
    unittest.main()
