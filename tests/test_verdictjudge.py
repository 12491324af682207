"""[7.7], [7.8], [7.10] and the interface of coveredday.verdictjudge."""

import random
import unittest

from coveredday.breach import Breach
from coveredday.plan import Plan
from coveredday.safe import Safe
from coveredday.tables import Table
from coveredday.verdict import verdict
from coveredday.verdictjudge import breach_fault, safe_fault
from tests.common import THINGS, Promises
from tests.plans import GROUPS, OIL, PHASES, TABLES, busy_plan, chain_plan, example_plan, forward_plan
from tests.test_breach import RIGHT
from tests.test_longest import entry, sums_of, window_sum
from tests.test_phases import end_at, phases_behind, told_openings, told_states, told_steps
from tests.test_safe import safe_plan
from tests.test_verdict import allowed
from tests.test_walks import is_walk
from tests.test_windows import ends_of, rows_of_phases


def listed(thing):
    """The thing with all tuples as lists."""
    return [listed(part) for part in thing] if isinstance(thing, tuple) else thing


def word_of_papers(plan, papers):
    """The words "step" and "opening" of papers of the right form, or None, worked out anew."""
    for row in papers:
        group, end, up, down, told = row
        numbers = dict(told)
        for state in told_states(plan, group):
            for node, late, kind in told_steps(plan, group, state):
                weight = entry(plan, state[0], node, up, down)
                if kind == end and numbers.get(state, -1) < weight:
                    return "step"
                if kind is None and late in numbers and numbers.get(state, -1) < weight + numbers[late]:
                    return "step"
    for row in papers:
        for state, number in row[4]:
            if state in told_openings(plan, row[0]) and number > allowed(plan, *row[:4]):
                return "opening"
    return None


def is_breach(plan, told):
    """Whether a breach whose attributes are of the right kinds has no fault, by writing out its walk."""
    opening, walk = told.opening, told.first + told.ring * told.turns + told.tail
    if opening not in told_openings(plan, told.group):
        return False
    if opening[0] is None:
        if told.lead:
            return False
    elif not is_walk(plan, told.lead) or told.lead[-1:] != opening[:1]:
        return False
    elif opening[1] == "holding" and not [node for node in told.lead[:-1] if plan.kind(node) in ("desk", "free")]:
        return False
    if not walk or not is_walk(plan, walk, opening[0]) or told.end not in ends_of(plan, told.group, opening, walk):
        return False
    if told.turns == 0:
        right = told.ring == () and told.phase is None
    else:
        turn = told.first[-1] if told.first else opening[0]
        right = bool(told.ring and told.tail) and told.ring[-1] == turn and is_walk(plan, told.ring, turn)
        right = right and told.phase in [row[-1] for row in rows_of_phases(plan, told.group, opening[1], told.first)]
        right = right and told.phase in [row[-1] for row in rows_of_phases(plan, told.group, told.phase, told.ring)]
        right = right and told.end in ends_of(plan, told.group, (turn, told.phase), told.tail)
    total = window_sum(plan, opening, walk, told.up, told.down)
    return right and told.excess >= 1 and told.excess == total - allowed(plan, told.group, told.end, told.up, told.down)


class TestSafeFault(Promises):
    def setUp(self):
        self.plan = safe_plan()
        self.papers = listed(verdict(self.plan).papers)

    def word(self, expected, papers=...):
        self.same(safe_fault(self.plan, self.papers if papers is ... else papers), expected)

    def test_right_papers(self):
        self.word(None)
        self.word(None, verdict(self.plan).papers)
        self.papers[0][4].reverse()
        self.papers[3][4].reverse()
        self.word(None)
        for row in self.papers[4:]:
            row[4].append([["na", "freeout"], 10 ** 40])
        self.word(None, [tuple(row) for row in self.papers])

    def test_the_papers_and_not_the_safe(self):
        self.word("papers", Safe(self.papers))

    def test_word_papers(self):
        for thing in THINGS:
            self.word("papers", thing)
            for at in (0, 3, 7):
                self.word("papers", self.papers[:at] + [thing] + self.papers[at + 1:])
                for index in range(5):
                    row = list(self.papers[at])
                    row[index] = thing
                    right = self.papers[at][index] == thing or (index == 4 and isinstance(thing, (list, tuple)))
                    if not right:
                        self.word("papers", self.papers[:at] + [row] + self.papers[at + 1:])
        self.word("papers", self.papers[:-1])
        self.word("papers", self.papers + self.papers[-1:])
        self.word("papers", self.papers[1:] + self.papers[:1])
        self.word("papers", self.papers[::-1])
        self.word("papers", [row + [None] for row in self.papers])
        self.papers[0][4] = [None]
        self.papers[7][4] = None
        self.word("papers")

    def test_word_number(self):
        right = self.papers[7][4]
        self.assertTrue(right)
        for thing in THINGS:
            for wrong in (thing, [thing, 1], [["na", thing], 1], [["na", "empty", "empty"], 1], [["na", "empty"], 1, 1],
                          [["na", "empty"]]):
                self.papers[7][4] = right[1:] + [wrong]
                self.word("number")
            self.papers[7][4] = [[["na", "free"], thing]] + right
            self.word(None if type(thing) is int and thing >= 0 else "number")
            self.papers[7][4] = right + [[[thing, "free"], 1]]
            self.word(None if thing is None else "number")

    def test_a_state_twice(self):
        right = self.papers[7][4]
        for again in (right[0], tuple(right[0]), [tuple(right[0][0]), 99], (tuple(right[0][0]), 0)):
            self.papers[7][4] = right + [again]
            self.word("number")
        self.papers[0][4] = [[[None, "free"], 0], ((None, "free"), 0)]
        self.word("number")

    def test_a_number_in_any_row_comes_ahead_of_a_step(self):
        self.papers[2][4] = []
        self.word("step")
        self.papers[7][4] = self.papers[7][4] + [None]
        self.word("number")

    def test_papers_bent_in_one_place(self):
        chance = random.Random(98)
        words = []
        while len(words) < 400:
            self.plan = chance.choice((busy_plan, forward_plan))(chance, 5)
            told = verdict(self.plan)
            rows = [at for at, row in enumerate(told.papers) if row[4]] if told.is_safe else []
            for at in rows[:6]:
                papers = listed(told.papers)
                place = chance.randrange(len(papers[at][4]))
                bent = chance.randint(0, 3)
                if bent == 0:
                    del papers[at][4][place]
                elif bent == 1:
                    papers[at][4][place][1] += chance.randint(1, 2)
                elif papers[at][4][place][1] > 0:
                    papers[at][4][place][1] -= 1
                else:
                    states = [state for state in told_states(self.plan, papers[at][0])
                              if list(state) not in [one for one, _ in papers[at][4]]]
                    papers[at][4] += [[list(chance.choice(states)), chance.randint(0, 2)]] if states else []
                expected = word_of_papers(self.plan, [row[:4] + [[(tuple(one), number) for one, number in row[4]]]
                                                      for row in papers])
                self.word(expected, papers)
                words.append(expected)
        for word in (None, "step", "opening"):
            self.assertGreater(words.count(word), 15, word)

    def test_no_papers_for_a_plan_that_pays(self):
        chance = random.Random(99)
        found = 0
        while found < 60:
            self.plan = busy_plan(chance, 5)
            if not verdict(self.plan).is_safe:
                for most in (0, 2, 99):
                    papers = [row + ([(state, most) for state in told_states(self.plan, row[0])],)
                              for row in sums_of(self.plan)]
                    self.assertIn(safe_fault(self.plan, papers), ("step", "opening"))
                found += 1

    def test_just_the_allowance(self):
        rows = sums_of(self.plan)
        at = rows.index(("firm", "stand", "oil", "cash"))
        numbers = {tuple(state): number for state, number in self.papers[at][4]}
        self.same(numbers["na", "empty"], 2)
        for number, expected in ((1, "step"), (2, None), (3, None), (4, None), (5, "opening")):
            self.papers[at][4] = [[state, number if state == ("na", "empty") else told] for state, told in numbers.items()]
            self.word(expected)

    def test_a_step_that_ends_asks_for_its_weight(self):
        self.plan = chain_plan(("desk",), ("move", "day"), ("close",), ("rest",))
        papers = [list(row) for row in verdict(self.plan).papers]
        at = sums_of(self.plan).index(("firm", "stand", "oil", "cash"))
        numbers = dict(papers[at][4])
        self.same(numbers["nb", "stand"], 2)
        for number, expected in ((0, "step"), (1, "step"), (2, None), (3, "step")):
            papers[at][4] = [(state, number if state == ("nb", "stand") else told) for state, told in numbers.items()]
            self.word(expected, papers)
        papers[at][4] = [(state, told) for state, told in numbers.items() if state != ("nb", "stand")]
        self.word("step", papers)

    def test_a_plan_without_windows(self):
        self.plan = chain_plan(("move", "day"), ("rest",))
        rows = [row + ((),) for row in sums_of(self.plan)]
        self.word(None, rows)
        self.word("opening", rows[:1] + [rows[1][:4] + ([[[None, "empty"], 1]],)] + rows[2:])
        self.word("step", rows[:1] + [rows[1][:4] + ([[["na", "empty"], 1]],)] + rows[2:])


class TestBreachFault(Promises):
    plan = example_plan()

    def word(self, expected, plan=None, **changes):
        told = Breach(**dict(RIGHT, turns=2, excess=2) | changes)
        self.same(breach_fault(self.plan if plan is None else plan, told), expected)

    def test_right_ones(self):
        self.word(None)
        self.word(None, turns=10 ** 40, excess=2 * 10 ** 40 - 2)
        self.word(None, opening=["gap", "holding"], lead=["gap", "till", "shift", "bar", "gap"])
        self.word(None, up="cash", down="oil")
        self.word(None, first=("till", "shift"), ring=("bar", "gap", "till", "shift"), tail=("bar",))
        walk = ("till", "shift", "bar", "gap") * 3
        for cut in range(12):
            self.word(None, first=walk[:cut], tail=walk[cut:11], ring=(), turns=0, phase=None)

    def test_words_group_end_and_pair(self):
        for thing in THINGS:
            self.word("group", group=thing, end=thing, lead=thing)
            self.word("end", end=thing, up=thing, lead=thing)
            if thing not in ("oil", "cash"):
                self.word("pair", up=thing, lead=thing, first=thing)
                self.word("pair", down=thing, opening=thing, first=thing)
        self.word("pair", up="cash", lead=())
        self.word("pair", down="oil", lead=())

    def test_word_lead(self):
        for thing in THINGS:
            self.word("lead", opening=thing, first=thing)
            self.word("lead", opening=("gap", thing), ring=thing)
            self.word("lead", opening=(thing, "empty"), tail=thing)
            self.word("lead", lead=thing, turns=thing)
            self.word("lead", lead=("gap", thing), phase=thing)
        self.word("lead", opening=(None, "empty"), turns=None)
        self.word("window", opening=(None, "empty"), lead=(), turns=None)
        self.word("lead", opening=(None, "holding"), lead=())
        self.word("lead", opening=("gap", "stand"))
        self.word("lead", opening=("till", "holding"), lead=("gap", "till"))
        self.word("lead", opening=("gap", "holding"))
        self.word("lead", lead=("gap", "till"))
        self.word("lead", lead=())
        self.word("lead", lead=("till", "shift", "bar", "gap"))
        self.word(None, lead=("gap", "till", "shift", "bar", "gap"))

    def test_word_window(self):
        for thing in THINGS:
            for name in ("first", "ring", "tail", "phase"):
                if thing != () and thing != [] or name != "first":
                    self.word("window", excess=thing, **{name: thing})
            if not (type(thing) is int and thing > 0):
                self.word("window", turns=thing, excess=thing)
            self.word("window", first=("till", thing), excess=None)
            self.word("window", ring=(thing,) + RIGHT["ring"][1:], excess=None)
            self.word("window", tail=("shift", thing), excess=None)
            self.word("window", turns=0, ring=(), phase=thing, tail=("shift", "bar", thing))
        self.word("window", first=("till", "shift"))
        self.word("window", phase="holding")
        self.word("window", phase="out")
        self.word("window", tail=())
        self.word("window", ring=())
        self.word("window", tail=("shift", "bar", "gap"))
        self.word("window", end="free")
        self.word("window", end="free", phase="free")
        self.word("window", ring=("shift", "bar", "gap"))
        self.word("window", ring=("shift", "bar", "gap", "till", "shift"))
        self.word(None, ring=RIGHT["ring"] * 2, turns=1)

    def test_leads_by_desk_and_free_nodes(self):
        for kind, expected in (("desk", None), ("free", None), ("rest", "lead"), ("tell", "lead")):
            nodes = [("na", ("rest",), [("nb", None), ("nc", None)]), ("nb", (kind,), [("nc", None)]),
                     ("nc", ("tell",), [("nd", None)]), ("nd", ("look", ("firm",)), [("ne", None)]),
                     ("ne", ("move", "deep"), [("nf", None)]), ("nf", ("close",), [("nf", None)])]
            plan = Plan(OIL, TABLES, [("firm", "day")], nodes)
            parts = {"group": "firm", "end": "stand", "up": "oil", "down": "cash", "opening": ("nc", "holding"),
                     "first": (), "ring": (), "tail": ("nd", "ne", "nf"), "turns": 0, "phase": None, "excess": 2}
            self.same(breach_fault(plan, Breach(lead=("na", "nb", "nc"), **parts)), expected)
            self.same(breach_fault(plan, Breach(lead=("na", "nc"), **parts)), "lead")

    def test_a_window_without_turns(self):
        walk = ("till", "shift", "bar", "gap") * 2 + ("till", "shift", "bar")
        right = {"first": walk, "tail": (), "ring": (), "turns": 0, "phase": None, "excess": 2}
        self.word(None, **right)
        for thing in THINGS:
            if thing not in ([], ()):
                self.word("window", **dict(right, ring=thing))
                self.word("window", **dict(right, tail=thing))
                self.word("window", **dict(right, first=thing, tail=walk))
            if thing is not None:
                self.word("window", **dict(right, phase=thing))
        for phase in PHASES:
            self.word("window", **dict(right, phase=phase))
        self.word("window", **dict(right, first=()))
        self.word("window", **dict(right, first=walk[:-1]))
        self.word("window", **dict(right, first=walk[1:]))
        self.word("window", **dict(right, ring=walk[:4]))
        self.word("window", **dict(right, turns=False))

    def test_an_empty_first_with_a_ring_at_the_opening(self):
        nodes = [("na", ("desk",), [("nb", None)]), ("nb", ("tell",), [("nb", None), ("nc", None)]),
                 ("nc", ("free",), [("nd", None)]), ("nd", ("move", "day"), [("ne", None), ("nd", None)]),
                 ("ne", ("close",), [("na", None)])]
        plan = Plan(OIL, TABLES, GROUPS, nodes)
        common = {"plan": plan, "end": "free", "opening": ("nb", "holding"), "lead": ("na", "nb"), "turns": 1}
        self.word("window", **common, first=(), ring=("nb",), tail=("nc", "nd", "ne"), phase="holding", excess=2)
        self.word(None, **common, first=("nc", "nd"), ring=("nd",), tail=("ne",), phase="free", excess=4)
        # A ring at the opening itself needs a telling that the window goes on behind, which there is none.
        self.word("window", **dict(common, opening=(None, "empty"), lead=()), first=(), ring=("na",), tail=("nb",),
                  phase="empty", excess=2)

    def test_word_excess(self):
        for thing in THINGS + (2, -2, 3):
            self.word(None if type(thing) is int and thing == 2 else "excess", excess=thing)
        self.word("excess", turns=1, excess=0)
        nodes = [("na", ("desk",), [("nb", None)]), ("nb", ("move", "day"), [("nc", None)]), ("nc", ("close",), [("nc", None)])]
        plan = Plan(OIL, TABLES + (("one", Table.full(OIL, 1)),), [("firm", "one")], nodes)
        straight = {"plan": plan, "opening": (None, "empty"), "lead": (), "first": ("na",), "ring": (),
                    "tail": ("nb", "nc"), "turns": 0, "phase": None}
        self.word(None, **straight, excess=1)
        self.word("excess", **straight, excess=True)

    def test_breaches_bent_in_one_place(self):
        chance = random.Random(100)
        kinds = []
        while len(kinds) < 900:
            plan = chance.choice((busy_plan, busy_plan, forward_plan))(chance)
            told = verdict(plan)
            if told.is_safe or told.turns > 5:
                continue
            self.assertTrue(is_breach(plan, told))
            for _ in range(12):
                bent = self.bent(chance, plan, dict(vars(told)))
                kinds.append(is_breach(plan, bent))
                self.same(breach_fault(plan, bent) is None, kinds[-1])
        self.assertGreater(kinds.count(True), 50)
        self.assertGreater(kinds.count(False), 300)

    def bent(self, chance, plan, parts):
        """The breach with one or two attributes changed."""
        for _ in range(chance.randint(1, 2)):
            name = chance.choice(("group", "end", "up", "down", "opening", "lead", "first", "ring", "tail", "turns", "phase",
                                  "excess", "shift", "turned"))
            if name in ("lead", "first", "ring", "tail"):
                row = list(parts[name])
                if row and chance.random() < 0.5:
                    row.pop(chance.randrange(len(row)))
                else:
                    row.insert(chance.randint(0, len(row)), chance.choice(plan.node_names))
                parts[name] = tuple(row)
            elif name == "shift" and not parts["turns"]:
                walk = parts["first"] + parts["tail"]
                cut = chance.randint(0, len(walk))
                parts["first"], parts["tail"] = walk[:cut], walk[cut:]
            elif name == "turned" and parts["turns"]:
                parts["first"] = parts["first"] + parts["ring"] * parts["turns"]
                parts["ring"], parts["turns"], parts["phase"] = (), 0, None
            elif name in parts:
                parts[name] = chance.choice({
                    "group": plan.group_names, "end": ("stand", "free"), "up": ("cash",) + plan.goods,
                    "down": ("cash",) + plan.goods, "opening": told_openings(plan, parts["group"]),
                    "turns": (0, 1, 2, 3), "phase": PHASES + (None,), "excess": (parts["excess"] - 1, parts["excess"] + 1)}[name])
        if parts["up"] == parts["down"]:
            parts["down"] = [asset for asset in ("cash",) + plan.goods if asset != parts["up"]][0]
        return self.with_right_excess(chance, plan, parts)

    def with_right_excess(self, chance, plan, parts):
        """The breach; mostly with the excess that it should have, if its walk is one."""
        walk = parts["first"] + parts["ring"] * parts["turns"] + parts["tail"]
        if chance.random() < 0.7 and is_walk(plan, walk, parts["opening"][0]):
            total = window_sum(plan, parts["opening"], walk, parts["up"], parts["down"])
            parts["excess"] = total - allowed(plan, parts["group"], parts["end"], parts["up"], parts["down"])
        return Breach(**parts)

    def test_nothing_is_changed(self):
        parts = dict(RIGHT, turns=2, excess=2)
        told = Breach(**parts)
        breach_fault(self.plan, told)
        self.same(vars(told), parts)
        self.assertTrue(self.plan == example_plan())
        self.same([end_at(self.plan, "bar", phase) for phase in ("stand", "free")], ["stand", "free"])
        self.same(phases_behind(self.plan, "firm", "till", "empty"), ("holding", "stand"))


if __name__ == "__main__":
    unittest.main()
