"""[11.1], [11.4], [11.5] and the interface of coveredday.plantext."""

import random
import unittest

from coveredday.errors import BadPlan, BadTable, BadText, OpenTable
from coveredday.plan import Plan
from coveredday.plantext import plan_text, read_plan
from coveredday.tables import Table
from tests.common import THINGS, Promises
from tests.plans import OIL, TABLES, example_plan, random_plan
from tests.test_changes import parts
from tests.test_phases import TWO_GROUPS

TEXT = """goods oil
table day
cash over oil 2
oil over cash 2
table deep
cash over oil 4
oil over cash 4
group firm deep
node gap tell -> till
node till desk -> shift
node shift move day -> bar
node bar close -> gap"""


def spoiled(*changes):
    """The text with lines replaced: (line, new lines)."""
    lines = TEXT.split("\n")
    for line, new in sorted(changes, reverse=True):
        lines[line - 1:line] = new
    return "\n".join(lines)


class TestTexts(Promises):
    def test_the_example(self):
        self.same(plan_text(example_plan()), TEXT)
        found = read_plan(TEXT)
        self.assertTrue(type(found) is Plan and found == example_plan())
        self.same(parts(found), parts(example_plan()))

    def test_each_step_and_calm_tables(self):
        nodes = [("shift", ("move", "day"), [("gate", "deep"), ("shift", None)]), ("gate", ("look", ("other", "firm")), [("shift", None), ("gate", None)]),
                 ("na", ("free",), [("nb", None)]), ("nb", ("rest",), [("na", None)]), ("nc", ("look", ("firm",)), [("nc", None)])]
        plan = Plan(OIL, TABLES, TWO_GROUPS, nodes)
        lines = plan_text(plan).split("\n")
        self.same(lines[7:], [
            "group firm deep", "group other day", "node shift move day -> gate/deep shift", "node gate look other firm -> shift gate",
            "node na free -> nb", "node nb rest -> na", "node nc look firm -> nc"])
        self.assertTrue(read_plan(plan_text(plan)) == plan)

    def test_texts_read_back(self):
        chance = random.Random(221)
        for _ in range(200):
            self.look(random_plan(chance, chance.choice((5, 9)), 4, (0, 1, 10, 10 ** 12)))

    def look(self, plan):
        text = plan_text(plan)
        found = read_plan(text)
        self.same((parts(found), plan_text(found)), (parts(plan), text))
        self.assertTrue(found == plan)

    def test_names_that_are_words_of_texts(self):
        table = Table(("over", "goods"), [("over", "cash", 1), ("cash", "goods", 1), ("goods", "over", 1)])
        nodes = [("node", ("move", "table"), [("group", "group"), ("node", None)]), ("group", ("look", ("node", "over")), [("node", None)]),
                 ("move", ("tell",), [("over", None)]), ("over", ("desk",), [("move", None)])]
        plan = Plan(("over", "goods"), [("table", table), ("group", table), ("over", table)], [("node", "over"), ("over", "table")], nodes)
        self.look(plan)
        self.same(plan_text(plan).split("\n")[1:4], ["table table", "over over cash 1", "cash over goods 1"])

    def test_great_numbers(self):
        most = 10 ** 30 - 1
        plan = Plan(OIL, [("far", Table.full(OIL, most, cap=most))], [("firm", "far")], [("na", ("rest",), [("na", None)])])
        self.look(plan)
        plan = Plan(OIL, [("far", Table.full(OIL, most + 1, cap=most + 1))], [("firm", "far")], plan.nodes)
        self.fails(BadText, (3, "most"), read_plan, plan_text(plan))


class TestErrors(Promises):
    def test_no_text_and_goods(self):
        for thing in THINGS:
            what = (1, "goods") if type(thing) is str else (0, "text")
            self.fails(BadText, what, read_plan, thing)
        for line in ("goods", "goods ", "goods oil oil", "goods cash", "Goods oil", "", "table day", "goods oil "):
            self.fails(BadText, (1, "goods"), read_plan, spoiled((1, [line]), (3, ["x"])))

    def test_lines(self):
        for line in ("", " ", "table", "table day day", "Table x", "tables x", "group firm", "group firm deep deep", "groups a b", "node", "node a tell", "node a tell ->",
                     "node a tell b c", "node a -> b c", "node -> a b c", "node a tell b ->", "nodes a tell -> b", "goods oil", "x", "x over y", "x over y 1 2", "x y over 1",
                     "over x y 1", "node a -> ->", "table  day", " table day", "node  tell ->"):
            for at in (2, 5, 8, 12):
                self.fails(BadText, (at, "line"), read_plan, spoiled((at, [line, "also wrong"])))
        self.fails(BadText, (13, "line"), read_plan, TEXT + "\n")

    def test_what_lines_are(self):
        """Four words with over as the second are a row, whatever stands around it."""
        for line in ("table over x 1", "group over oil 1", "node over oil 1", "node over -> 1", "-> over -> 7"):
            self.fails(BadText, (2, "order"), read_plan, spoiled((2, [line])))
            with self.assertRaises(BadText) as caught:
                read_plan(spoiled((3, [line])))
            self.same((caught.exception.line, caught.exception.what), (3, "up"))

    def test_order(self):
        for at, line, what in (
                (2, "cash over oil 2", "order"), (2, "cash over oil x", "order"), (9, "cash over oil 2", "order"), (9, "table x", "order"), (9, "cash over oil x", "order"),
                (11, "group a b", "order"), (12, "cash over oil 2", "order"), (12, "table ", "order"), (12, "group  ", "order")):
            self.fails(BadText, (at, what), read_plan, spoiled((at, [line, "wrong"])))
        self.fails(BadText, (3, "order"), read_plan, spoiled((2, ["group firm deep"])))
        self.fails(BadText, (2, "order"), read_plan, "goods oil\ncash over oil 2\ntable day")
        self.fails(BadText, (3, "order"), read_plan, "goods oil\nnode a tell -> b/c\ngroup a b")

    def test_numbers(self):
        for word in ("x", "-1", "01", "00", "1" * 31, "", "1.5", "\u0661"):
            self.fails(BadText, (4, "most"), read_plan, spoiled((3, ["x over y 1"]), (4, ["oil over cash " + word]), (9, ["wrong"])))

    def test_steps(self):
        for step in ("move", "move day deep", "look", "tell day", "desk desk", "walk", "free x", "close ", "rest rest", "-> x", "", "Tell", "tell "):
            line = "node a " + step + " -> b/c/d"
            self.fails(BadText, (9, "step"), read_plan, spoiled((9, [line, "wrong"]), (3, ["x over y 1"])))

    def test_the_first_arrow_counts(self):
        """From the fourth word on; each one behind it is a follower, and one ahead of it a part of the step."""
        found = read_plan(spoiled((9, ["node gap tell -> till"])))
        self.same(found.first, "gap")
        self.fails(BadPlan, ("follower", 0), read_plan, spoiled((9, ["node gap tell -> -> till"])))
        self.fails(BadText, (9, "step"), read_plan, spoiled((9, ["node gap -> tell -> till"])))
        self.fails(BadText, (9, "step"), read_plan, spoiled((9, ["node gap -> -> till"])))
        self.fails(BadPlan, ("node", 0), read_plan, spoiled((9, ["node -> tell -> till"])))

    def test_followers(self):
        for word in ("b/c/d", "//", "a//", "a//b", "/a/"):
            self.fails(BadText, (9, "follower"), read_plan, spoiled((9, ["node gap tell -> till " + word, "wrong"])))
            self.fails(BadText, (11, "follower"), read_plan, spoiled((11, ["node shift move day -> " + word]), (3, ["x over y 1"])))
        for word, what in (("till/", "calm"), ("/", "follower"), ("/day", "follower"), ("", "follower"), ("till/day", "calm"), ("gone", "follower"), ("till till", "follower")):
            self.fails(BadPlan, (what, 0), read_plan, spoiled((9, ["node gap tell -> " + word])))
        for word, what in (("bar/", "calm"), ("bar/gone", "calm"), ("bar/firm", "calm"), ("bar ", "follower"), ("bar  gap", "follower")):
            self.fails(BadPlan, (what, 2), read_plan, spoiled((11, ["node shift move day -> " + word])))
        self.same(read_plan(spoiled((11, ["node shift move day -> bar/deep gap/day"]))).followers("shift"), (("bar", "deep"), ("gap", "day")))

    def caused(self, line, what, text, cause):
        with self.assertRaises(BadText) as caught:
            read_plan(text)
        self.same((caught.exception.line, caught.exception.what), (line, what))
        found = caught.exception.__cause__
        self.same((type(found),) + tuple(vars(found).values()), cause)

    def test_tables_are_made_when_all_lines_are_read(self):
        for rows, line, what, cause in (
                (["x over oil 1"], 3, "up", (BadTable, 0, "up")), (["cash over oil 2", "oil over  1"], 4, "down", (BadTable, 1, "down")),
                (["cash over oil 2", "oil over oil 1"], 4, "same", (BadTable, 1, "same")), (["cash over oil 2", "cash over oil 2"], 4, "double", (BadTable, 1, "double")),
                (["cash over oil 2"], 2, "open", (OpenTable, "oil", "cash")), ([], 2, "open", (OpenTable, "cash", "oil"))):
            text = spoiled((3, rows), (4, []), (5, ["table deep", "x over x 1"]), (9, ["node gap tell -> gone"]))
            self.caused(line, what, text, cause)
            self.fails(BadText, (12 + len(rows), "line"), read_plan, text + "\nwrong")
        self.caused(6, "up", spoiled((5, ["table "]), (6, ["x over oil 1"])), (BadTable, 0, "up"))
        self.caused(5, "open", spoiled((5, ["table day"]), (6, [])), (OpenTable, "cash", "oil"))

    def test_errors_of_the_plan_go_out(self):
        for changes, what, at in (
                ([(5, ["table "])], "table", 1), ([(2, ["table day1"])], "table", 0), ([(5, ["table day"])], "table", 1), ([(8, ["group firm "])], "cover", 0),
                ([(8, ["group  deep"])], "group", 0), ([(8, [])], "groups", None), ([(8, ["group firm deep", "group firm day"])], "group", 1),
                ([(8, ["group firm far"])], "cover", 0), ([(10, ["node gap desk -> shift"])], "node", 1), ([(11, ["node shift move  -> bar"])], "step", 2),
                ([(11, ["node shift move far -> bar"])], "step", 2), ([(9, ["node gap look firm firm -> till"])], "step", 0), ([(9, ["node gap look  -> till"])], "step", 0),
                ([(9, ["node  tell -> till"])], "node", 0), ([(9, ["node gap tell -> till till till till till"])], "followers", 0),
                ([(line, []) for line in (9, 10, 11, 12)], "nodes", None), ([(2, ["table t" + letter + "\ncash over oil 1\noil over cash 1" for letter in "abcdefg"] + ["table day"])], "tables", None),
                ([(line, []) for line in range(2, 8)], "tables", None), ([(8, ["group g" + letter + " day" for letter in "abcd"])], "groups", None)):
            self.fails(BadPlan, (what, at), read_plan, spoiled(*changes))
        with self.assertRaises(BadPlan) as caught:
            read_plan(spoiled((8, [])))
        self.same(caught.exception.__cause__, None)

    def test_400_lines(self):
        nodes = ["node a" + one + other + " tell -> gap" for one in "abcdefghijklmnopqrst" for other in "abcdefghijklmnopqrst"][:388]
        text = "\n".join([TEXT] + nodes)
        self.same(len(text.split("\n")), 400)
        self.fails(BadPlan, ("nodes", None), read_plan, text)
        self.fails(BadText, (400, "follower"), read_plan, text + "//")


if __name__ == "__main__":
    unittest.main()
