"""[9.1], [9.2] and the interface of coveredday.views."""

import random
import unittest

from coveredday.cover import cover_amount
from coveredday.errors import BadView, NoAsset, OtherGoods
from coveredday.plan import Plan
from coveredday.position import Position
from coveredday.tables import Table
from coveredday.views import View, known
from tests.common import THINGS, Promises, all_pairs, moves_within
from tests.lookouts import Moves, apart, walks_behind, worst
from tests.plans import OIL, TABLES, example_plan, random_plan

HUGE = 10 ** 40
KINDS = ("move", "move", "move", "tell", "desk", "look", "rest")


def behinds(plan):
    return [None] + [node for node in plan if plan.kind(node) == "tell"]


class TestViews(Promises):
    def look(self, chance, plan, moves, walk, behind):
        """Looks at a view of one walk: all moves along it tell what the true prices can be."""
        told = [chance.randint(-5, 5) for _ in plan.goods]
        view = known(plan, told, list(walk), behind)
        self.same((type(view), view.told, view.walk, view.behind), (View, tuple(told), walk, behind))
        self.same(len(view.step_tables), len(moves.along(walk)))
        for table, expected in zip(view.step_tables, moves.along(walk)):
            self.same(set(moves_within(table)) == expected, True)
        truths = {tuple(map(sum, zip(told, change))) for change in moves.changes(walk)}
        for up, down in all_pairs(plan.goods) + [("cash", "cash"), (plan.goods[0],) * 2]:
            numbers = [apart(prices, plan.goods, up, down) for prices in truths]
            self.same(view.bounds(up, down), (min(numbers), max(numbers)))
        counts = [chance.randint(-3, 3) for _ in plan.goods]
        position, cash = Position(plan.goods, counts), chance.randint(-9, 9)
        self.same(view.loss(position), sum(worst(counts, row) for row in moves.along(walk)))
        equities = [cash + position.worth(prices) for prices in truths]
        self.same(view.equities(cash, position), (min(equities), max(equities)))
        found = view.worst_moves(position)
        self.same((type(found), len(found)), (tuple, len(view.step_tables)))
        self.assertTrue(all(move in row for move, row in zip(found, moves.along(walk))))
        self.same(sum(position.loss(move) for move in found), view.loss(position))

    def test_all_short_walks_of_small_plans(self):
        chance = random.Random(111)
        count = 0
        for _ in range(60):
            plan = random_plan(chance, 5, 3, (0, 0, 1, 2), KINDS)
            moves = Moves(plan)
            for behind in behinds(plan):
                walks = walks_behind(plan, behind, 4, ("tell",))
                for walk in chance.sample(walks, min(len(walks), 12)):
                    self.look(chance, plan, moves, walk, behind)
                    count += 1
        self.assertGreater(count, 500)

    def test_the_last_node_is_entered_but_not_left(self):
        nodes = [("na", ("move", "deep"), [("nb", "day"), ("na", None)]), ("nb", ("rest",), [("na", None)])]
        plan = Plan(OIL, TABLES, [("firm", "deep")], nodes)
        position = Position(OIL, (1,))
        for walk, tables in (((), []), (("na",), [4]), (("na", "nb"), [2]), (("na", "na"), [4, 4]), (("na", "nb", "na"), [2, 4])):
            view = known(plan, (7,), walk)
            self.same([table["cash", "oil"] for table in view.step_tables], tables)
            self.same((view.loss(position), view.bounds("oil", "cash")), (sum(tables), (7 - sum(tables), 7 + sum(tables))))
            self.assertTrue(view.sum_table == Table.full(OIL, sum(tables)))

    def test_narrower_than_the_sum_table_tells(self):
        """The example of [4.6]: each step alone loses nothing."""
        goods = ("a", "b", "c")
        one = Table(goods, [("cash", "a", 0), ("a", "b", 0), ("b", "a", 0), ("b", "cash", 1), ("c", "cash", 0), ("cash", "c", 0)])
        two = Table(goods, [("cash", "b", 0), ("b", "c", 0), ("c", "b", 0), ("c", "cash", 1), ("a", "cash", 0), ("cash", "a", 0)])
        nodes = [("na", ("move", "one"), [("nb", None)]), ("nb", ("move", "two"), [("na", None)])]
        view = known(Plan(goods, [("one", one), ("two", two)], [("firm", "one")], nodes), (0, 0, 0), ("na", "nb"))
        position = Position(goods, (1, -1, 1))
        self.same((view.loss(position), view.equities(5, position), view.equities(0, -position)), (0, (5, 5), (0, 0)))
        self.same((cover_amount(position, view.sum_table), view.bounds("b", "c"), view.bounds("a", "b")), (1, (0, 1), (-1, 0)))

    def test_long_walks_and_great_numbers(self):
        table = Table.full(OIL, HUGE, cap=HUGE)
        nodes = [("na", ("move", "far"), [("na", None), ("nb", None)]), ("nb", ("rest",), [("na", None)])]
        plan = Plan(OIL, [("far", table)], [("firm", "far")], nodes)
        view = known(plan, (HUGE,), ("na",) * 3000 + ("nb",))
        self.same(view.loss(Position(OIL, (-2,))), 6000 * HUGE)
        self.same(view.equities(1, Position(OIL, (1,))), (1 + HUGE - 3000 * HUGE, 1 + 3001 * HUGE))
        self.same(view.bounds("cash", "oil"), (-3001 * HUGE, 2999 * HUGE))

    def test_flat_positions_and_walks_without_moves(self):
        plan = example_plan()
        view = known(plan, (3,), ("till",), "gap")
        self.same((view.loss(Position(OIL, (9,))), view.equities(1, Position(OIL, (2,))), view.worst_moves(Position(OIL, (9,)))),
                  (0, (7, 7), ()))
        view = known(plan, (3,), ("till", "shift"), "gap")
        self.same((view.loss(Position(OIL, (0,))), view.step_tables[0]["oil", "cash"]), (0, 2))


class TestErrors(Promises):
    def test_words_in_their_order(self):
        plan = example_plan()
        for thing in THINGS:
            if not (type(thing) in (list, tuple) and len(thing) == 1 and type(thing[0]) is int):
                self.fails(BadView, ("told",), known, plan, thing, thing, thing)
            if thing is not None:
                self.fails(BadView, ("behind",), known, plan, (HUGE,), thing, thing)
            if not (type(thing) in (list, tuple) and len(thing) == 0):
                self.fails(BadView, ("walk",), known, plan, [0], thing)
                self.fails(BadView, ("walk",), known, plan, [0], thing, behind="gap")
        for behind in ("till", "shift", "bar", "firm", "deep"):
            self.fails(BadView, ("behind",), known, plan, (0,), None, behind)
        for walk, behind in ((("gap",), None), (("gap", "till"), None), (("till", "shift", "bar", "gap"), "gap"), (("shift",), "gap"),
                             (("till", "till"), "gap"), (("till", None), "gap"), (("till", ["shift"]), "gap"), ("till", "gap")):
            self.fails(BadView, ("walk",), known, plan, (0,), walk, behind)
        self.same(known(plan, (0,), ["till", "shift", "bar"], "gap").walk, ("till", "shift", "bar"))

    def test_assets_and_positions(self):
        for walk in ((), ("till",), ("till", "shift")):
            view = known(example_plan(), (0,), walk, "gap")
            for thing in THINGS:
                if thing not in ("cash", "oil"):
                    self.fails(NoAsset, (thing,), view.bounds, thing, None)
                    self.fails(NoAsset, (thing,), view.bounds, "oil", thing)
            for goods in (("rye",), ("oil", "rye")):
                other = Position.flat(goods)
                self.fails(OtherGoods, (), view.loss, other)
                self.fails(OtherGoods, (), view.equities, 1, other)
                self.fails(OtherGoods, (), view.worst_moves, other)

    def test_what_is_passed_in_is_not_kept(self):
        told, walk = [3], ["till", "shift"]
        view = known(example_plan(), told, walk, "gap")
        told[0] = 9
        walk.clear()
        self.same((view.told, view.walk, view.bounds("oil", "cash")), ((3,), ("till", "shift"), (1, 5)))


if __name__ == "__main__":
    unittest.main()
