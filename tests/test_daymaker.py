"""[7.12], [7.13] and the interface of coveredday.daymaker; days are played by a small house."""

import random
import unittest

from coveredday.breach import Breach, Day
from coveredday.daymaker import day_of
from coveredday.errors import BadBreach, TooLong
from coveredday.moves import extreme_move
from coveredday.plan import Plan
from coveredday.tables import Table
from coveredday.verdict import verdict
from coveredday.verdictjudge import breach_fault
from tests.common import THINGS, Promises
from tests.plans import GROUPS, OIL, TABLES, busy_plan, chain_plan, example_plan
from tests.smallhouse import played
from tests.test_longest import window_sum
from tests.test_phases import TWO_GROUPS
from tests.test_windows import all_windows, rows_of_phases
from tests.test_walks import is_walk

GREAT = 10 ** 15
TWO = ("a", "b")


def walk_of(breach):
    return breach.first + breach.ring * breach.turns + breach.tail


def straight(group, end, up, down, opening, lead, walk, excess):
    """A breach without a ring."""
    return Breach(group, end, up, down, opening=opening, lead=lead, first=walk, ring=(), tail=(), turns=0, phase=None,
                  excess=excess)


def all_breaches(plan, length, length_of_leads):
    """All breaches of windows with short walks, and with short leads."""
    for group in plan.group_names:
        for opening, walk, end in all_windows(plan, group, length):
            for lead in leads_to(plan, opening, length_of_leads):
                for up, down in [(up, down) for up in ("cash",) + plan.goods for down in ("cash",) + plan.goods if up != down]:
                    allowed = plan.cover_table(group)[up, down] if end == "stand" else 0
                    excess = window_sum(plan, opening, walk, up, down) - allowed
                    if excess > 0:
                        yield straight(group, end, up, down, opening, lead, walk, excess)


def leads_to(plan, opening, length):
    """All leads of at most so many nodes."""
    node, phase = opening
    if node is None:
        return [()]
    ways, found = [()], []
    for _ in range(length):
        ways = [way + (one,) for way in ways for one in plan if is_walk(plan, way + (one,))]
        found += [way for way in ways if way[-1] == node and (
            phase == "empty" or any(plan.kind(one) in ("desk", "free") for one in way[:-1]))]
    return found


class TestDays(Promises):
    def look(self, plan, breach):
        """Looks at the form of the day and plays it."""
        before = list(vars(breach).values())
        day = day_of(plan, breach)
        self.assertIs(type(day), Day)
        self.same(list(vars(breach).values()), before)
        self.assertTrue(day == day_of(plan, breach))
        self.same(day.prices, (0,) * len(plan.goods))
        self.same([row[:2] for row in day.members], [("a", breach.group), ("b", breach.group)])
        entered = [deed for deed in day.deeds if deed[0] == "enter"]
        places = breach.lead + walk_of(breach)
        self.same(tuple(deed[1] for deed in entered), places)
        self.same(day.deeds[-2:], (("notice", "a"), ("enter", places[-1], None)))
        for at, (_, node, move) in enumerate(entered):
            if plan.kind(node) != "move":
                self.same(move, None)
            elif at + 1 < len(breach.lead):
                self.same(move, (0,) * len(plan.goods))
            else:
                self.same(move, extreme_move(plan.edge_table(node, places[at + 1]), breach.up, breach.down))
        self.look_at_trading(plan, breach, day)
        self.play(plan, breach, day)

    def look_at_trading(self, plan, breach, day):
        """Looks at where the members trade and at what they do there."""
        trading = [at for at, deed in enumerate(day.deeds) if deed[0] in ("order", "trade", "pay_out")]
        goods = [asset for asset in (breach.down, breach.up) if asset != "cash"]
        kinds = [deed[0] for deed in day.deeds]
        self.same(trading, list(range(trading[0], trading[-1] + 1)))
        self.same(len(day.deeds), kinds.count("enter") + len(trading) + 1)
        node = day.deeds[trading[0] - 1][1]
        at = kinds[:trading[0]].count("enter") - 1
        places = breach.lead + walk_of(breach)
        if plan.kind(node) == "free":
            self.same(sorted(deed[3] for deed in day.deeds if deed[0] == "trade"), sorted(goods))
            allowed = 0 if breach.end == "free" else plan.cover_table(breach.group)[breach.up, breach.down]
            self.same(day.members[0][2], allowed)
        else:
            self.same((plan.kind(node), breach.end), ("desk", "stand"))
            self.same({deed[5] for deed in day.deeds if deed[0] == "order"}, {0})
        if breach.end == "stand":
            self.same(at, [plan.kind(one) in ("desk", "free") for one in places].index(True))
        elif len(places) < 12:
            rows = rows_of_phases(plan, breach.group, breach.opening[1], walk_of(breach)[:-1])
            entering = {row.index("free") - 1 for row in rows if row[-1] in ("free", "freeout")}
            self.assertIn(at - len(breach.lead), entering)

    def play(self, plan, breach, day):
        """Plays the day: the house pays the excess for a alone, and b is never marked."""
        house = played(plan, day)
        marked = [row[1] for row in house.happenings if row[0] == "marked"]
        self.same([row[1:] for row in house.happenings if row[0] == "paid"], [("a", breach.excess)])
        self.same((house.paid, set(marked), house.happenings[-1][0]), (breach.excess, {"a"}, "paid"))
        self.same(house.cash["a"], 0)

    def test_all_small_breaches(self):
        chance = random.Random(91)
        count = 0
        for _ in range(160):
            plan = busy_plan(chance, 6)
            found = list(all_breaches(plan, 5, 4))
            chance.shuffle(found)
            for breach in found[:60]:
                self.same(breach_fault(plan, breach), None)
                self.look(plan, breach)
                count += 1
        self.assertGreater(count, 500)

    def test_verdicts(self):
        chance = random.Random(92)
        turning = 0
        for _ in range(250):
            plan = busy_plan(chance)
            breach = verdict(plan)
            if not breach.is_safe:
                self.look(plan, breach)
                turning += breach.turns > 0
        self.assertGreater(turning, 10)

    def test_the_example(self):
        plan = example_plan()
        day = day_of(plan, verdict(plan))
        self.play(plan, verdict(plan), day)
        walk = ("till", "shift", "bar", "gap", "till", "shift", "bar", "gap", "till", "shift", "bar")
        breach = straight("firm", "stand", "cash", "oil", ("gap", "empty"), ("gap",), walk, 2)
        day = day_of(plan, breach)
        round_again = (("enter", "gap", None), ("enter", "till", None), ("enter", "shift", (-2,)))
        self.same(day.deeds, (
            ("enter", "gap", None), ("enter", "till", None), ("order", "b", "oil", "sell", 1, 0),
            ("order", "a", "oil", "buy", 1, 0), ("enter", "shift", (-2,)), ("enter", "bar", None)) + round_again + (
            ("enter", "bar", None),) + round_again + (("notice", "a"), ("enter", "bar", None)))

    def test_what_is_paid_out_behind_the_desk(self):
        cover = Table(TWO, (("cash", "a", 7), ("a", "cash", 9), ("a", "b", 1), ("b", "a", 2), ("b", "cash", 20), ("cash", "b", 8)))
        tables = (("cover", cover), ("day", Table.full(TWO, 30)))
        nodes = [("na", ("desk",), [("nb", None)]), ("nb", ("move", "day"), [("nc", None)]),
                 ("nc", ("close",), [("nc", None)])]
        plan = Plan(TWO, tables, [("firm", "cover")], nodes)
        for up in ("cash",) + TWO:
            for down in ("cash",) + TWO:
                if up != down:
                    breach = straight("firm", "stand", up, down, (None, "empty"), (), ("na", "nb", "nc"), 30 - cover[up, down])
                    self.look(plan, breach)
                    day = day_of(plan, breach)
                    paid = sum(deed[2] for deed in day.deeds if deed[0] == "pay_out")
                    self.same(day.members[0][2] - paid, cover[up, down])

    def test_looks_on_the_way(self):
        steps = (("look", ("firm", "other")), ("desk",), ("look", ("other", "firm")), ("tell",), ("look", ("firm",)),
                 ("desk",), ("look", ("firm",)), ("close",), ("move", "deep"), ("tell",), ("look", ("firm",)), ("close",))
        plan = chain_plan(*steps, groups=(("firm", "day"), ("other", "deep")))
        breach = verdict(plan)
        self.same(breach.is_safe, False)
        self.look(plan, breach)
        for breach in all_breaches(plan, 12, 4):
            self.look(plan, breach)

    def test_free_trades_at_several_nodes(self):
        plan = chain_plan(("free",), ("move", "day"), ("free",), ("look", ("firm",)), ("desk",), ("free",), ("move", "deep"),
                          ("close",), groups=TWO_GROUPS)
        count = 0
        for breach in all_breaches(plan, 8, 1):
            self.look(plan, breach)
            count += 1
        self.assertGreater(count, 3)

    def test_great_entries(self):
        tables = (("cover", Table.full(TWO, GREAT, cap=GREAT)), ("one", Table.full(TWO, 1)))
        nodes = [("na", ("tell",), [("nb", None)]), ("nb", ("desk",), [("nc", None)]),
                 ("nc", ("move", "cover"), [("nc", None), ("nd", None)]), ("nd", ("tell",), [("ne", None)]),
                 ("ne", ("look", ("firm",)), [("nf", None)]), ("nf", ("close",), [("na", None)])]
        plan = Plan(TWO, tables, [("firm", "cover")], nodes)
        breach = verdict(plan)
        self.look(plan, breach)
        self.same((breach.turns > 0, breach.excess >= 1), (True, True))
        walk = ("nb",) + ("nc",) * 1990 + ("nd", "ne", "nf")
        breach = straight("firm", "stand", "b", "a", ("na", "empty"), ("na",), walk, 1989 * GREAT)
        self.look(plan, breach)


class TestErrors(Promises):
    def ring_plan(self, most=1):
        nodes = [("na", ("desk",), [("nb", None)]), ("nb", ("move", "one"), [("nb", None), ("nc", None)]),
                 ("nc", ("close",), [("nc", None)])]
        tables = [("one", Table.full(OIL, 1)), ("cover", Table.full(OIL, most, cap=GREAT))]
        return Plan(OIL, tables, [("firm", "cover")], nodes)

    def test_days_of_2000_nodes_and_longer_ones(self):
        for most in (1996, 1997, 1998, 10 ** 12, GREAT):
            plan = self.ring_plan(most)
            breach = verdict(plan)
            steps = breach.walk_length
            self.same((steps, breach.excess), (most + 3, 1))
            if steps <= 2000:
                self.same(played(plan, day_of(plan, breach)).paid, 1)
            else:
                self.fails(TooLong, (steps,), day_of, plan, breach)

    def test_the_lead_counts(self):
        plan = chain_plan(("tell",), ("desk",), ("move", "day"), ("move", "deep"), ("close",), back="na",
                          groups=(("firm", "day"),))
        walk = ("nb", "nc", "nd", "ne")
        around = ("na",) + walk
        for turns, steps in ((399, 2000), (400, 2005)):
            breach = straight("firm", "stand", "oil", "cash", ("na", "holding"), around * turns + ("na",), walk, 4)
            self.same((breach_fault(plan, breach), breach.walk_length), (None, steps))
            if steps == 2000:
                self.same(played(plan, day_of(plan, breach)).paid, 4)
            else:
                self.fails(TooLong, (steps,), day_of, plan, breach)

    def test_bad_breaches_come_first(self):
        plan = self.ring_plan(10 ** 12)
        right = vars(verdict(plan))
        for name, word in (("group", "group"), ("end", "end"), ("up", "pair"), ("down", "pair"), ("opening", "lead"),
                           ("lead", "lead"), ("first", "window"), ("ring", "window"), ("tail", "window"),
                           ("turns", "window"), ("phase", "window"), ("excess", "excess")):
            for thing in THINGS:
                told = "excess" if name == "turns" and type(thing) is int and thing > 0 else word
                wrong = Breach(**dict(right, **{name: thing}))
                if breach_fault(plan, wrong) is not None:
                    self.fails(BadBreach, (told,), day_of, plan, wrong)
                else:
                    self.assertTrue(wrong == Breach(**right))


if __name__ == "__main__":
    unittest.main()
