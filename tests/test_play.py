"""[8.13], [8.14], and what part 7 says of days, played by houses; the interface of coveredday.play."""

import random
import unittest

from coveredday.breach import Day
from coveredday.daymaker import day_of
from coveredday.errors import BadDeed, BadHouse, BadMove, NoEdge, NotCovered, NotNow
from coveredday.house import House
from coveredday.longest import longest
from coveredday.parcels import Parcels
from coveredday.plan import Plan
from coveredday.play import play, tried
from coveredday.sums import allowance
from coveredday.tables import Table
from coveredday.verdict import verdict
from tests.common import THINGS, Promises
from tests.houses import outcome, sums_of, told_state
from tests.plainhouse import plain_of
from tests.plans import OIL, busy_plan, example_plan, forward_plan, random_plan
from tests.test_daymaker import all_breaches

GREAT = 10 ** 15


class TestTried(Promises):
    def house(self):
        house = House(example_plan(), (10,), [("ann", "firm", 9), ("bob", "firm", 9)])
        for node in ("gap", "till"):
            house.enter(node)
        return house

    def test_what_would_come(self):
        house = self.house()
        before = told_state(house)
        buying = [("order", "ann", "oil", "buy", 2, 10), ["order", "bob", "oil", "sell", 2, 10]]
        closing = [("enter", "shift", (-2,)), ("notice", "ann"), ("enter", "bar", None)]
        self.fails(NotCovered, ("ann", 3), house.do, ("order", "ann", "oil", "buy", 3, 10))
        self.same(tried(house, ()), (0, ()))
        self.same(tried(house, buying), (0, (("filled", "ann", "bob", "oil", 2, 10),)))
        self.same(tried(house, buying + closing), (0, (
            ("filled", "ann", "bob", "oil", 2, 10), ("entered", "shift"), ("marked", "ann", "notice"), ("entered", "bar"),
            ("closed", "ann", 16, 5))))
        self.same(told_state(house), before)

    def test_what_would_be_paid(self):
        plan = example_plan()
        breach = verdict(plan)
        day = day_of(plan, breach)
        house = House(plan, day.prices, day.members)
        for deed in day.deeds[:3]:
            house.do(deed)
        before = told_state(house)
        paid, happenings = tried(house, list(day.deeds[3:]))
        self.same((paid, happenings[-1]), (breach.excess, ("paid", "a", breach.excess)))
        self.same(told_state(house), before)
        for deed in day.deeds[3:]:
            house.do(deed)
        self.same((house.paid_total, house.daybook().since(len(before[-1]))), (paid, happenings))
        again = [("enter", "gap", None), ("enter", "till", None)]
        self.same(tried(house, again), (0, (("entered", "gap"), ("entered", "till"))))

    def test_errors_go_out(self):
        house = self.house()
        before = told_state(house)
        for deeds, error, told in (
                ([("notice", "ann"), ("enter", "bar", None)], NoEdge, ("till", "bar")), ([("pay_in", "ann", 5), ("trade", 1, 2, 3, 4)], NotNow, ("trade",)),
                ([("enter", "shift", (1,)), "x"], BadDeed, ("x",)), ([None], BadDeed, (None,)),
                ([("order", "ann", "oil", "buy", 1, 1), ("enter", "shift", None)], BadMove, ("missing",))):
            self.fails(error, told, tried, house, deeds)
            self.same(told_state(house), before)
        self.same(house.order("ann", "oil", "buy", 1, 1), 0)

    def test_within_a_trial(self):
        house = self.house()
        with house.trial() as held:
            held.pay_in("ann", 5)
            self.same(tried(held, [("pay_out", "ann", 14)]), (0, (("paid_out", "ann", 14),)))
            self.same(held.cash_of("ann"), 14)
        self.same(house.cash_of("ann"), 9)


class TestPlay(Promises):
    def test_a_day(self):
        parcels = Parcels(OIL, [("pack", [("oil", 2)])])
        day = Day([10], [["ann", "firm", 30], ["bob", "firm", 30]], [
            ["enter", "gap", None], ["enter", "till", None], ["order", "ann", "pack", "buy", 1, 20], ["order", "bob", "pack", "sell", 1, 20],
            ["apart", "ann", "pack", 1], ["enter", "shift", [2]]])
        house = play(example_plan(), day, parcels=parcels)
        self.same((type(house), house.place_now, house.true_prices, house.holdings_of("ann"), house.cash_of("ann")),
                  (House, "shift", (12,), (("oil", 2),), 10))
        self.assertTrue(house.parcels == parcels)
        house = play(example_plan(), Day((1,), (("ann", "firm", 0),), ()))
        self.same((house.place_now, len(house.daybook()), house.parcels.rows), (None, 0, ()))

    def test_errors_go_out(self):
        plan = example_plan()
        self.fails(BadHouse, ("prices", None), play, plan, Day((), (), ()))
        self.fails(BadHouse, ("cash", 0), play, plan, Day((1,), [("ann", "firm", -1)], ["x"]))
        self.fails(BadHouse, ("parcels", None), play, plan, Day((1,), [("ann", "firm", -1)], ["x"]), parcels=Parcels(("rye",)))
        for thing in THINGS:
            deed = thing if type(thing) is not list else play(plan, Day((1,), [("ann", "firm", 1)], ())) and Day((), (), [thing]).deeds[0]
            self.fails(BadDeed, (deed,), play, plan, Day((1,), [("ann", "firm", 1)], [("enter", "gap", None), thing, ("enter", "gap", None)]))


class TestDaysOfBreaches(Promises):
    """[7.11], [7.12]: the house pays just the excess, all of it for one member."""

    def look(self, plan, breach):
        day = day_of(plan, breach)
        before = repr(vars(day))
        house = play(plan, day)
        self.same(repr(vars(day)), before)
        self.same((house.paid_total, house.daybook().of("paid")), (breach.excess, (("paid", "a", breach.excess),)))
        self.same(({row[1] for row in house.daybook().of("marked")}, house.cash_of("a"), house.is_marked("a")), ({"a"}, 0, False))
        self.same((house.place_now, tuple(house.daybook())[-1][0]), (day.deeds[-1][1], "paid"))
        begun = sum(row[2] for row in day.members)
        self.same(sums_of(house, tuple(house.daybook())), (begun, (0,) * len(plan.goods)))
        for row in day.members:
            self.same(house.cash_of(row[0]), row[2] + house.daybook().cash_change(row[0]))
        return house, day

    def test_all_small_breaches_in_both_houses(self):
        chance = random.Random(141)
        count = 0
        for _ in range(120):
            plan = busy_plan(chance, 6)
            found = list(all_breaches(plan, 5, 4))
            for breach in chance.sample(found, min(len(found), 15)):
                house, day = self.look(plan, breach)
                plain = plain_of(plan, day.prices, day.members)
                for deed in day.deeds:
                    plain.do(deed)
                self.same(told_state(house), plain.told_state())
                count += 1
        self.assertGreater(count, 150)

    def test_verdicts(self):
        """[7.2], [7.9]: what a day pays is the greatest sum less the allowance, if there is a greatest one."""
        chance = random.Random(142)
        turning = straight = 0
        for number in range(250):
            plan = forward_plan(chance, 8) if number % 3 == 0 else busy_plan(chance)
            breach = verdict(plan)
            if not breach.is_safe:
                house = self.look(plan, breach)[0]
                row = (breach.group, breach.end, breach.up, breach.down)
                most = longest(plan, *row)
                if most is not None:
                    self.same((house.paid_total, breach.turns), (most - allowance(plan, *row), 0))
                turning += breach.turns > 0
                straight += most is not None
        self.assertTrue(turning > 10 and straight > 10, (turning, straight))

    def test_great_entries(self):
        """[7.13]: closed entries of 10 ** 15, and 2,000 nodes."""
        two = ("a", "b")
        tables = (("far", Table.full(two, GREAT, cap=GREAT)), ("near", Table.full(two, GREAT // 900, cap=GREAT)))
        nodes = [("na", ("desk",), [("nb", None)]), ("nb", ("move", "near"), [("nb", None), ("nc", None)]), ("nc", ("close",), [("na", None)])]
        plan = Plan(two, tables, [("firm", "far")], nodes)
        breach = verdict(plan)
        self.assertGreater(breach.walk_length, 890)
        self.look(plan, breach)


class TestSafePlans(Promises):
    """All days of small plans up to some length: where the verdict is safe, the house pays on none of them."""

    def options(self, plan, plain):
        """What the members may do where the house stands, each a row of deeds."""
        good, price, kind = plan.goods[0], plain.told[0], None if plain.place is None else plan.kind(plain.place)
        slack = plain.slack("ann")
        rows = [[], [("notice", "ann")]]
        if kind == "desk":
            rows += [[("order", "bob", good, "sell", 1, price), ("order", "ann", good, "buy", 1, price)],
                     [("order", "ann", good, "sell", 1, price), ("order", "bob", good, "buy", 1, price)]]
            rows += [[("pay_out", "ann", slack)]] if slack > 0 else []
        if kind == "free":
            rows += [[("trade", "ann", "bob", good, 1)], [("trade", "bob", "ann", good, 1)]]
        return rows

    def go(self, plan, house, plain, left):
        """Goes all days on from here, in the house by trials and in copies of the plain house; what was paid at most."""
        self.days += 1
        most = house.paid_total
        self.same(house.paid_total, plain.paid)
        if left == 0:
            return most
        followers = plan.followers(plain.place)
        for row in self.options(plan, plain):
            for node, calm in followers:
                for move in (plain.moves[plan.step(node)[1]] if plan.kind(node) == "move" else [None]):
                    other = plain.copied()
                    with house.trial():
                        for deed in row + [("enter", node, move)]:
                            self.same(outcome(house, deed), outcome(other, deed))
                        if house.place_now == other.place == node:
                            self.begun = sums_of(house, tuple(house.daybook()))
                            self.same(self.begun, (3 + 100, (0,) * len(plan.goods)))
                            most = max(most, self.go(plan, house, other, left - 1))
        return most

    def test_all_days_of_small_plans(self):
        chance = random.Random(143)
        kinds = ("move", "desk", "free", "look", "close", "tell")
        counts = {"safe": 0, "paid": 0}
        while counts["safe"] < 9 or counts["paid"] < 3:
            plan = random_plan(chance, 4, 1, (0, 1, 2), kinds)
            found = {plan.kind(node) for node in plan}
            if len(plan.goods) > 1 or not {"move", "close"} <= found or not {"desk", "free"} & found:
                continue
            is_safe = verdict(plan).is_safe
            if is_safe and counts["safe"] >= 9:
                continue
            self.days = 0
            members = [("ann", plan.group_names[0], 3), ("bob", plan.group_names[-1], 100)]
            most = self.go(plan, House(plan, (5,), members), plain_of(plan, (5,), members), 5)
            if is_safe:
                self.same(most, 0)
            counts["safe"] += is_safe
            counts["paid"] += most > 0


if __name__ == "__main__":
    unittest.main()
