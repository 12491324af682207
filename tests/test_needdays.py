"""[9.11] and the interface of coveredday.needdays; the days are played by a house and by the plain one."""

import random
import unittest

from coveredday.breach import Day
from coveredday.errors import BadTurns, NoWindow, TooLong
from coveredday.needdays import day_of_need
from coveredday.needs import Need, need, pays_at_most
from coveredday.plan import Plan
from coveredday.play import play
from coveredday.position import Position
from coveredday.tables import Table
from coveredday.walks import shortest_walk
from tests.common import THINGS, Promises
from tests.houses import sums_of, told_state
from tests.lookouts import Moves, worst
from tests.plainhouse import plain_of
from tests.plans import GROUPS, OIL, busy_plan, chain_plan, example_plan, forward_plan, random_plan
from tests.test_needs import ENDS, edge_losses, random_position, window_loss

GREAT = 10 ** 13
FIVE = ("a", "b", "c", "d", "e")


class TestDays(Promises):
    def look(self, plan, told, turns, small=True):
        """Plays the day of a need; what the house paid."""
        day = day_of_need(plan, told, turns)
        self.same(type(day), Day)
        self.assertTrue(day == day_of_need(plan, told, turns) and (turns or day == day_of_need(plan, told)))
        self.same((day.prices, {row[1] for row in day.members}), ((0,) * len(plan.goods), {told.group}))
        node, phase = told.opening
        lead = () if node is None else shortest_walk(plan, node, holding=phase == "holding")
        places = lead + told.gone(turns)
        entered = [deed for deed in day.deeds if deed[0] == "enter"]
        self.same(tuple(deed[1] for deed in entered), places)
        for deed in entered[:len(lead)]:
            self.assertIn(deed[2], (None, (0,) * len(plan.goods)))
        self.same(day.deeds[-1], ("enter", places[-1], None))
        house = play(plan, Day(day.prices, day.members, day.deeds[:-1]))
        first = day.members[0][0]
        self.assertTrue(house.position_of(first) == told.position)
        self.same((house.is_marked(first), house.orders_of(first), len(house.holdings_of(first)), house.paid_total),
                  (True, (), len([count for count in told.position.counts if count]), 0))
        house = play(plan, day)
        self.same(([row[1] for row in house.daybook().of("marked")], house.holdings_of(first)), ([first], ()))
        self.same([row[1] for row in house.daybook().of("closed")], [first])
        if small:
            plain = plain_of(plan, day.prices, day.members)
            for deed in day.deeds:
                plain.do(deed)
            self.same(told_state(house), plain.told_state())
        self.same(sums_of(house, tuple(house.daybook())), (sum(row[2] for row in day.members), (0,) * len(plan.goods)))
        paid = house.paid_total
        self.same(house.daybook().of("paid"), (("paid", first, paid),) if paid else ())
        return paid

    def expected(self, plan, told, turns):
        counts = told.position.counts
        backing = worst(counts, Moves(plan).within[dict(plan.groups)[told.group]]) if told.end == "stand" else 0
        return max(0, window_loss(told.opening, told.gone(turns), edge_losses(plan, counts)) - backing)

    def test_random_plans(self):
        chance = random.Random(161)
        played = paying = turning = 0
        for number in range(150):
            plan = (busy_plan, forward_plan, random_plan)[number % 3](chance, 7)
            for group in plan.group_names:
                for end in ENDS:
                    told = need(plan, group, random_position(chance, plan.goods), end=end)
                    if told.opening is None:
                        self.fails(NoWindow, ("opening",), day_of_need, plan, told)
                        continue
                    for turns in (0, 1, 3) if told.is_endless else (0, 5):
                        paid = self.look(plan, told, turns)
                        self.same(paid, self.expected(plan, told, turns))
                        played, paying, turning = played + 1, paying + (paid > 0), turning + (turns > 0 and told.is_endless)
                    if not told.is_endless:
                        self.same(paid, pays_at_most(plan, group, told.position, end=end))
        self.assertTrue(played > 200 and paying > 50 and turning > 30, (played, paying, turning))

    def test_flat_positions(self):
        chance = random.Random(162)
        for _ in range(30):
            plan = busy_plan(chance, 7)
            for end in ENDS:
                told = need(plan, plan.group_names[0], Position.flat(plan.goods), end=end)
                if told.opening is not None:
                    self.same(self.look(plan, told, 0), 0)

    def test_many_turns_and_2000_nodes(self):
        """The day of the example: a round has four nodes, the lead one or three more."""
        plan = example_plan()
        told = need(plan, "firm", Position(OIL, (2,)))
        fixed = len(told.gone(0)) + len(() if told.behind is None else shortest_walk(plan, told.behind, holding=told.opening[1] == "holding"))
        size = len(told.ring)
        most = (2000 - fixed) // size
        self.same(self.look(plan, told, most), self.expected(plan, told, most))
        self.fails(TooLong, (fixed + size * (most + 1),), day_of_need, plan, told, most + 1)
        self.fails(TooLong, (fixed + size * 10 ** 30,), day_of_need, plan, told, turns=10 ** 30)

    def test_days_of_just_2000_nodes(self):
        nodes = [("na", ("desk",), [("nb", None)]), ("nb", ("move", "day"), [("nb", None), ("nc", None)]), ("nc", ("close",), [("nc", None)])]
        plan = Plan(OIL, (("day", Table.full(OIL, 2)),), [("firm", "day")], nodes)
        told = need(plan, "firm", Position(OIL, (-3,)))
        fixed = len(told.gone(0))
        self.same(len(told.ring), 1)
        self.same(self.look(plan, told, 2000 - fixed), self.expected(plan, told, 2000 - fixed))
        self.fails(TooLong, (2001,), day_of_need, plan, told, 2001 - fixed)

    def test_great_counts_and_entries(self):
        """Counts of 1000 and closed entries of 10 ** 13, with five goods, on long days."""
        chance = random.Random(163)
        for end in ENDS:
            begin = ("desk",) if end == "stand" else ("free",)
            nodes = [("na", ("tell",), [("nb", None)]), ("nb", begin, [("nc", None)]), ("nc", ("move", "far"), [("nc", None), ("nd", None)]),
                     ("nd", ("tell",), [("ne", None)]), ("ne", ("look", ("firm",)), [("nf", None)]), ("nf", ("close",), [("na", None)])]
            plan = Plan(FIVE, [("far", Table.full(FIVE, GREAT, cap=GREAT)), ("one", Table.full(FIVE, 1))], [("firm", "far")], nodes)
            for _ in range(4):
                counts = [chance.choice((-1000, 1000, chance.randint(-1000, 1000))) for _ in FIVE]
                told = need(plan, "firm", Position(FIVE, counts), end=end)
                size = max(sum(count for count in counts if count > 0), -sum(count for count in counts if count < 0))
                steps = len([node for node in told.gone(900) if node == "nc"])
                self.assertGreater(steps, 900)
                self.same(self.look(plan, told, 900, small=False), GREAT * size * (steps - (end == "stand")))

    def test_looks_on_the_way(self):
        steps = (("look", ("firm", "other")), ("desk",), ("look", ("other", "firm")), ("tell",), ("look", ("firm",)), ("free",),
                 ("look", ("firm",)), ("close",), ("move", "deep"), ("tell",), ("look", ("firm",)), ("close",))
        plan = chain_plan(*steps, groups=(("firm", "day"), ("other", "deep")))
        for count in (-7, -1, 1, 5):
            for group in ("firm", "other"):
                for end in ENDS:
                    told = need(plan, group, Position(OIL, (count,)), end=end)
                    if told.opening is not None:
                        self.same(self.look(plan, told, 2), self.expected(plan, told, 2))
        self.same(pays_at_most(plan, "firm", Position(OIL, (1,))), 2)


class TestErrors(Promises):
    def test_errors_in_their_order(self):
        plan = chain_plan(("desk",), ("move", "day"), ("close",), groups=GROUPS)
        none = need(plan, "firm", Position(OIL, (1,)), end="free")
        right = need(plan, "firm", Position(OIL, (1,)))
        for thing in THINGS:
            if type(thing) is not int or thing < 0:
                self.fails(BadTurns, (thing,), day_of_need, plan, none, thing)
                self.fails(BadTurns, (thing,), day_of_need, plan, right, turns=thing)
            else:
                self.fails(NoWindow, ("opening",), day_of_need, plan, none, thing)
                self.assertTrue(day_of_need(plan, right, thing) == day_of_need(plan, right))
        self.same(type(none), Need)


if __name__ == "__main__":
    unittest.main()
