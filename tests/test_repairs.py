"""[10.10], [10.11], [10.13] and the interface of coveredday.repairs."""

import random
import unittest
from itertools import combinations

from coveredday.breach import Breach
from coveredday.changes import changed
from coveredday.errors import BadChange, BadNames, CannotBe, NoChoice, TooManyChanges
from coveredday.plan import Plan
from coveredday.repairs import Repairs, least_kept, least_repairs
from coveredday.safe import Safe
from coveredday.tables import Table
from coveredday.verdict import verdict
from tests.common import THINGS, Promises
from tests.plans import GROUPS, OIL, TABLES, busy_plan, chain_plan, example_plan, forward_plan
from tests.test_changes import listed, random_change
from tests.test_phases import TWO_GROUPS


def all_choices(count):
    return tuple(choice for length in range(count + 1) for choice in combinations(range(count), length))


def fate_of(plan, pool, choice):
    """The fate of a choice: the changes are done one after another, and the verdict is asked anew."""
    try:
        return "safe" if verdict(changed(plan, [pool[index] for index in choice])).is_safe else "pays"
    except CannotBe:
        return "cannot"


class TestRepairs(Promises):
    def look(self, plan, pool):
        found = least_repairs(plan, pool)
        choices = all_choices(len(pool))
        fates = {choice: fate_of(plan, pool, choice) for choice in choices}
        good = tuple(choice for choice in choices if fates[choice] == "safe")
        least = tuple(one for one in good if not any(set(other) < set(one) for other in good))
        steady = tuple(one for one in good if not any(fates[other] == "pays" and set(one) <= set(other) for other in choices))
        harms = tuple((one, index) for one in good for index in range(len(pool))
                      if index not in one and fates[tuple(sorted(one + (index,)))] == "pays")
        self.same(type(found), Repairs)
        self.assertTrue(found.plan == plan)
        self.same(listed(found.pool), listed(tuple(pool)))
        self.same((found.choices, found.good, found.least, found.steady, found.harms), (choices, good, least, steady, harms))
        self.same((tuple(found), len(found), [choice in found for choice in choices]), (least, len(least), [choice in least for choice in choices]))
        for choice in choices:
            self.look_at_choice(plan, pool, found, choice, fates[choice])
        return fates

    def look_at_choice(self, plan, pool, found, choice, fate):
        self.same(found.fate(choice), fate)
        if fate == "cannot":
            self.same(found.paper(choice), None)
            try:
                changed(plan, [pool[index] for index in choice])
            except CannotBe as fault:
                self.fails(CannotBe, (choice[fault.index],), found.plan_of, choice)
            return
        expected = changed(plan, [pool[index] for index in choice])
        self.assertTrue(found.plan_of(choice) == expected)
        paper = found.paper(choice)
        self.same(type(paper), Safe if fate == "safe" else Breach)
        self.same(vars(paper), vars(verdict(expected)))

    def test_random_pools(self):
        chance = random.Random(191)
        seen = {"safe": 0, "pays": 0, "cannot": 0, "harms": 0, "repaired": 0}
        for number in range(110):
            plan = busy_plan(chance, 6) if number % 2 else forward_plan(chance, 6)
            pool = [random_change(chance, plan) for _ in range(chance.choice((0, 1, 2, 3, 3, 4)))]
            pool += [("put", *edge, "late", ("tell",)) for edge in [(plan.first, plan.followers(plan.first)[0][0])] if number % 3 == 0]
            fates = self.look(plan, chance.choice((tuple(pool), pool, listed(tuple(pool)))))
            for fate in fates.values():
                seen[fate] += 1
            seen["harms"] += len(least_repairs(plan, pool).harms)
            seen["repaired"] += fates[()] == "pays" and "safe" in fates.values()
        self.assertTrue(min(seen.values()) > 3, seen)

    def test_a_plan_that_is_repaired(self):
        """A telling alone is not enough, a telling and a look are; a greater cover table is enough, too."""
        plan = chain_plan(("desk",), ("move", "day"), ("move", "day"), ("close",), groups=(("firm", "day"),))
        pool = [("cover", "firm", "deep"), ("put", "nb", "nc", "said", ("tell",)), ("put", "nb", "nc", "seen", ("look", ("firm",))),
                ("step", "nd", ("rest",)), ("step", "nc", ("rest",)), ("row", "day", "cash", "oil", 9)]
        found = least_repairs(plan, pool)
        self.same(found.fate(()), "pays")
        self.assertTrue((0,) in found and (3,) in found and (4,) in found)
        self.same([choice for choice in found.choices if found.fate(choice) == "cannot"],
                  [choice for choice in found.choices if 1 in choice and 2 in choice])
        self.fails(CannotBe, (2,), found.plan_of, (0, 1, 2, 5))
        self.same(((0,), 5) in found.harms, True)
        self.look(plan, pool)

    def test_pools_of_none_and_of_six(self):
        for plan in (example_plan(), chain_plan(("desk",), ("close",))):
            found = least_repairs(plan, ())
            self.same((found.choices, found.pool, found.harms), (((),), (), ()))
            self.look(plan, [])
        cuts = [("cut", "gap", "x")] * 6
        found = least_repairs(example_plan(), cuts)
        self.same((len(found.choices), [found.fate(choice) for choice in found.choices[:3]]), (64, ["pays", "cannot", "cannot"]))
        self.fails(TooManyChanges, (7,), least_repairs, example_plan(), cuts + [None])
        self.fails(TooManyChanges, (9,), least_repairs, example_plan(), (None,) * 9)
        for at in range(6):
            for thing in THINGS:
                self.fails(BadChange, (at,), least_repairs, example_plan(), cuts[:at] + [thing] + [None] * (5 - at))

    def test_wrong_choices(self):
        pool = [["step", "bar", ["rest"]], ["cut", "gap", "till"], ["row", "day", "oil", "cash", 0]]
        found = least_repairs(example_plan(), pool)
        wrong = [thing for thing in THINGS if not (type(thing) is tuple and thing in ((), (0,), (1, 2)))]
        wrong += [[], [0], (True,), (False,), (0, True), (3,), (-1,), (1, 0), (0, 0), (0, 1, 2, 3), ("0",), ((0,),), "least", "0", {}.get("x")]
        for thing in wrong:
            for call in (found.fate, found.paper, found.plan_of):
                self.fails(NoChoice, (thing,), call, thing)
            self.same(thing in found, False)
        self.same((found.least, (0,) in found, [0] in found, (False,) in found, (0, 2) in found), (((0,),), True, False, False, False))

    def test_what_is_passed_in_is_not_kept(self):
        pool = [["step", "bar", ["rest"]], ["put", "gap", "till", "new", ["look", ["firm"]]]]
        found = least_repairs(example_plan(), pool)
        pool[0][2][0] = "close"
        pool[1][4][1].append("x")
        pool.pop()
        self.same(found.pool, (("step", "bar", ("rest",)), ("put", "gap", "till", "new", ("look", ("firm",)))))
        self.same((found.plan_of((0,)).step("bar"), found.fate((0,)), len(list(found))), (("rest",), "safe", 2))
        self.same(found.plan_of((0,)) == found.plan_of((0,)), True)


class TestLeastKept(Promises):
    def look(self, plan, names):
        """All sets of names, with the verdict asked anew for each."""
        def is_enough(kept):
            rests = [("step", name, ("rest",)) for name in names if name not in kept]
            return verdict(changed(plan, rests)).is_safe

        sets = [tuple(names[index] for index in choice) for choice in all_choices(len(names))]
        enough = [one for one in sets if is_enough(one)]
        expected = tuple(one for one in enough if not any(set(other) < set(one) for other in enough))
        self.same(least_kept(plan, names), expected)
        return expected

    def test_random_plans(self):
        chance = random.Random(192)
        several = none = 0
        both = ("firm", "other")
        for number in range(70):
            plan = busy_plan(chance, 8)
            if number % 2:
                some = [("desk",), ("move", "deep"), ("tell",), ("look", chance.choice((both, both, ("firm",)))), ("close",), ("move", "deep"), ("close",)]
                for _ in range(chance.randint(0, 3)):
                    some.insert(chance.randint(1, 6), chance.choice((("tell",), ("look", both), ("look", ("firm",)), ("look", ("other",)))))
                plan = chain_plan(*some, groups=(("firm", "deep"), ("other", "deep")))
            names = [node for node in plan if plan.kind(node) in ("tell", "look")][:4]
            chance.shuffle(names)
            if len(names) > 1 and (verdict(plan).is_safe or number % 5 == 0):
                found = self.look(plan, chance.choice((tuple(names), names)))
                several += len(found) > 1
                none += found == ((),)
        self.assertTrue(several > 2 and none > 3, (several, none))

    def test_a_look_and_a_telling_that_have_to_be_kept(self):
        steps = (("desk",), ("move", "deep"), ("tell",), ("look", ("other",)), ("look", ("firm",)), ("close",), ("move", "deep"), ("close",))
        plan = chain_plan(*steps, groups=GROUPS + (("other", "deep"),), back="nh")
        found = self.look(plan, ("ne", "nc", "nd"))
        self.same(found, (("ne", "nc", "nd"),))
        self.same(self.look(plan, ["nd", "ne"]), (("nd", "ne"),))
        self.same(self.look(plan, ("nc",)), (("nc",),))
        alone = chain_plan(*steps, groups=GROUPS + (("other", "far"),), tables=TABLES + (("far", Table.full(OIL, 8)),), back="nh")
        self.same(self.look(alone, ("nd", "ne", "nc")), (("ne", "nc"),))
        self.same(self.look(plan, ()), ((),))
        many = chain_plan(("look", ("firm",)), ("look", ("firm",)), ("tell",), ("tell",), ("look", ("firm",)), ("tell",), ("desk",))
        self.same(self.look(many, ("na", "nb", "nc", "nd", "ne", "nf")), ((),))
        self.same(self.look(example_plan(), ("gap",)), ())
        self.same(self.look(example_plan(), ()), ())

    def test_errors(self):
        plan = chain_plan(("look", ("firm",)), ("tell",), ("desk",), ("look", ("other",)), groups=TWO_GROUPS)
        self.fails(TooManyChanges, (7,), least_kept, plan, ("na",) * 7)
        self.fails(TooManyChanges, (8,), least_kept, plan, [None] * 8)
        for thing in THINGS + ("nc", "zz", "firm"):
            self.fails(BadNames, (0,), least_kept, plan, [thing, "na", "na"])
            self.fails(BadNames, (2,), least_kept, plan, ("na", "nb", thing))
        self.fails(BadNames, (1,), least_kept, plan, ["na", "na", "nc"])
        self.fails(BadNames, (2,), least_kept, plan, ("na", "nd", "na", "na"))
        self.same(type(least_kept(Plan(OIL, TABLES, TWO_GROUPS, plan.nodes), ["na", "nd", "nb"])), tuple)


if __name__ == "__main__":
    unittest.main()
