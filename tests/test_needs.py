"""[9.9], [9.10], what [9.12] tells of needs, and the interface of coveredday.needs."""

import random
import unittest

from coveredday.cover import cover_amount
from coveredday.errors import BadEnd, BadTurns, NoGroup, OtherGoods
from coveredday.least import least_table
from coveredday.longest import longest
from coveredday.longwalk import LongWalk
from coveredday.needs import Need, need, pays_at_most
from coveredday.plan import Plan
from coveredday.position import Position
from coveredday.tables import Table
from coveredday.verdict import verdict
from coveredday.windows import Window, window_fault
from tests.common import THINGS, Promises, all_pairs
from tests.lookouts import Moves, worst
from tests.plans import GROUPS, OIL, TABLES, busy_plan, chain_plan, example_plan, forward_plan, random_plan
from tests.test_phases import told_openings, told_states, told_steps
from tests.test_windows import all_windows

HUGE = 10 ** 40
ENDS = ("stand", "free")


def edge_losses(plan, counts):
    """The greatest loss of counts by the moves of each edge."""
    moves = Moves(plan)
    return {(name, other): worst(counts, moves.of_edge(name, other)) for name, _, followers in plan.nodes for other, _ in followers}


def raised_need(plan, group, end, losses):
    """The greatest loss in windows with this end, by longer and longer rows of steps: a number, None if it goes on
    growing, and "none" if there is no window."""
    numbers = {state: 0 for state in told_openings(plan, group)}
    count = len(told_states(plan, group))
    top, tops = None, []
    for _ in range(2 * count + 2):
        late = {}
        for state, number in numbers.items():
            for node, other, told in told_steps(plan, group, state):
                now = number + losses.get((state[0], node), 0)
                if told == end:
                    top = now if top is None else max(top, now)
                elif told is None:
                    late[other] = max(late.get(other, 0), now)
        numbers = late
        tops.append(top)
    return "none" if top is None else top if tops[count] == top else None


def window_loss(opening, walk, losses):
    return sum(losses.get(pair, 0) for pair in zip((opening[0],) + walk, walk))


def random_position(chance, goods, most=3):
    return Position(goods, [chance.randint(-most, most) for _ in goods])


class TestNeeds(Promises):
    def setUp(self):
        self.kinds = {"none": 0, "endless": 0, "number": 0}

    def look(self, plan, group, position, end):
        """Looks at a need, at the window that shows it, and at what the house can be made to pay."""
        losses = edge_losses(plan, position.counts)
        expected = raised_need(plan, group, end, losses)
        found = need(plan, group, position, end=end)
        self.assertIsInstance(found, LongWalk)
        self.same((type(found), found.group, found.end), (Need, group, end))
        self.assertTrue(found.position == position)
        if expected == "none":
            self.same((found.amount, found.opening, found.behind, found.first, found.ring, found.tail), (0, None, None, (), (), ()))
            self.kinds["none"] += 1
            expected = 0
        else:
            self.same((found.amount, found.is_endless), (expected, expected is None))
            self.look_at_windows(plan, found, losses)
            self.kinds["endless" if expected is None else "number"] += 1
        backing = worst(position.counts, Moves(plan).within[dict(plan.groups)[group]]) if end == "stand" else 0
        self.same(pays_at_most(plan, group, position, end=end), None if expected is None else max(0, expected - backing))

    def look_at_windows(self, plan, found, losses):
        self.same((found.behind, type(found.opening)), (found.opening[0], tuple))
        told = []
        for turns in range(4):
            gone = found.gone(turns)
            self.same(window_fault(plan, Window(found.group, found.opening, gone, found.end)), None)
            told.append(window_loss(found.opening, gone, losses))
        if found.amount is None:
            gains = [late - early for early, late in zip(told, told[1:])]
            self.assertTrue(found.ring and gains[0] > 0 and gains == gains[:1] * 3)
        else:
            self.same((told, found.ring, found.tail), ([found.amount] * 4, (), ()))

    def test_random_plans(self):
        chance = random.Random(151)
        for number in range(120):
            plan = (busy_plan, forward_plan, random_plan)[number % 3](chance, 7)
            for group in plan.group_names:
                for end in ENDS:
                    self.look(plan, group, random_position(chance, plan.goods), end)
        self.assertTrue(min(self.kinds.values()) > 20, self.kinds)

    def test_against_all_windows_up_to_some_length(self):
        chance = random.Random(152)
        count = 0
        for _ in range(60):
            plan = forward_plan(chance, 6)
            for group in plan.group_names:
                position = random_position(chance, plan.goods)
                losses = edge_losses(plan, position.counts)
                found = all_windows(plan, group, 7)
                for end in ENDS:
                    told = [window_loss(opening, walk, losses) for opening, walk, one in found if one == end]
                    self.same(need(plan, group, position, end=end).amount, max(told, default=0))
                    count += len(told) > 0
        self.assertGreater(count, 30)

    def test_the_example(self):
        plan = example_plan()
        for counts, amount, pays in (((3,), 6, 0), ((-2,), 4, 0), ((0,), 0, 0)):
            found = need(plan, "firm", Position(OIL, counts))
            if amount == 0:
                self.same((found.amount, found.is_endless), (0, False))
            else:
                self.same((found.amount, found.is_endless), (None, True))
            pays = None if amount else 0
            self.same(pays_at_most(plan, "firm", Position(OIL, counts)), pays)

    def test_a_day_with_looks(self):
        """One turn of the day costs one move: the look marks who cannot bear it."""
        steps = (("tell",), ("look", ("firm",)), ("close",), ("desk",), ("move", "day"))
        plan = chain_plan(*steps, back="na")
        found = need(plan, "firm", Position(OIL, (3,)))
        self.same((found.amount, found.end, pays_at_most(plan, "firm", Position(OIL, (3,)))), (6, "stand", 0))
        self.same(found.gone(5), found.first)
        lesser = Plan(OIL, (("day", Table.full(OIL, 2)), ("deep", Table.full(OIL, 1))), GROUPS, plan.nodes)
        self.same([pays_at_most(lesser, "firm", Position(OIL, (count,))) for count in (-3, -1, 0, 1, 2)], [3, 1, 0, 1, 2])
        self.same([pays_at_most(lesser, "firm", Position(OIL, (count,)), end="free") for count in (-3, 0, 1)], [0, 0, 0])

    def test_no_window_with_an_end(self):
        plan = chain_plan(("desk",), ("move", "day"), ("close",))
        for counts in ((0,), (5,), (-5,)):
            found = need(plan, "firm", Position(OIL, counts), end="free")
            self.same((found.amount, found.opening, found.behind, found.first, found.gone(3), found.end), (0, None, None, (), (), "free"))
            self.same(pays_at_most(plan, "firm", Position(OIL, counts), end="free"), 0)
            self.same(need(plan, "firm", Position(OIL, counts)).opening, (None, "empty"))

    def test_class(self):
        opening, first = ["x", "holding"], ["a"]
        position = Position(OIL, (1,))
        found = Need(None, group="g", position=position, end="free", opening=opening, first=first, ring=["b"], tail=["c"])
        opening[0] = "y"
        first.clear()
        self.same((found.amount, found.group, found.end, found.opening, found.behind, found.gone(2)),
                  (None, "g", "free", ("x", "holding"), "x", ("a", "b", "b", "c")))
        self.fails(BadTurns, (-1,), found.gone, -1)
        found = Need(0, group="g", position=position, end="stand", opening=None, first=())
        self.same((found.opening, found.behind, found.ring, found.tail), (None, None, (), ()))


class TestFacts(Promises):
    """[9.12]."""

    def test_pairs_are_the_longest_sums(self):
        chance = random.Random(153)
        for _ in range(60):
            plan = busy_plan(chance)
            for group in plan.group_names:
                for end in ENDS:
                    for up, down in all_pairs(plan.goods):
                        position = Position(plan.goods, [int(good == down) - int(good == up) for good in plan.goods])
                        self.same(need(plan, group, position, end=end).amount, longest(plan, group, end, up, down))

    def test_multiples_and_sums(self):
        chance = random.Random(154)
        for number in range(80):
            plan = forward_plan(chance, 7) if number % 2 else busy_plan(chance)
            group, end = chance.choice(plan.group_names), chance.choice(ENDS)
            one, other = random_position(chance, plan.goods), random_position(chance, plan.goods)
            of_one, of_other, of_both = [need(plan, group, part, end=end).amount for part in (one, other, one + other)]
            for times in (1, 2, 7, 10 ** 20):
                self.same(need(plan, group, one * times, end=end).amount, None if of_one is None else of_one * times)
            self.same(need(plan, group, one * 0, end=end).amount, 0)
            if of_one is not None and of_other is not None:
                self.assertTrue(of_both is not None and of_both <= of_one + of_other)

    def test_least_tables_and_safe_plans(self):
        chance = random.Random(155)
        safe = 0
        for number in range(120):
            plan = forward_plan(chance, 7) if number % 2 else busy_plan(chance)
            pairs = [Position(plan.goods, [int(good == down) - int(good == up) for good in plan.goods]) for up, down in all_pairs(plan.goods)]
            positions = pairs + [random_position(chance, plan.goods) for _ in range(3)]
            paid = [pays_at_most(plan, group, position, end=end) for group in plan.group_names for position in positions for end in ENDS]
            self.same(verdict(plan).is_safe, paid == [0] * len(paid))
            safe += verdict(plan).is_safe
            for group in plan.group_names:
                least = least_table(plan, group)
                if least is not None:
                    for position in positions:
                        self.assertLessEqual(need(plan, group, position).amount, cover_amount(position, least))
                        self.same(need(plan, group, position, end="free").amount, 0)
        self.assertTrue(10 < safe < 110)

    def test_a_need_can_be_less_than_the_cover_under_the_least_table(self):
        """The example of [4.6]: two steps that each lose nothing."""
        goods = ("a", "b", "c")
        one = Table(goods, [("cash", "a", 0), ("a", "b", 0), ("b", "a", 0), ("b", "cash", 1), ("c", "cash", 0), ("cash", "c", 0)])
        two = Table(goods, [("cash", "b", 0), ("b", "c", 0), ("c", "b", 0), ("c", "cash", 1), ("a", "cash", 0), ("cash", "a", 0)])
        nodes = [("na", ("desk",), [("nb", None)]), ("nb", ("move", "one"), [("nc", None)]), ("nc", ("move", "two"), [("nd", None)]),
                 ("nd", ("close",), [("nd", None)])]
        plan = Plan(goods, [("one", one), ("two", two)], [("firm", "one")], nodes)
        position = Position(goods, (1, -1, 1))
        self.same((need(plan, "firm", position).amount, cover_amount(position, least_table(plan, "firm"))), (0, 1))

    def test_groups_that_are_looked_at_more_often(self):
        chance = random.Random(156)
        compared = 0
        for number in range(500):
            plan = busy_plan(chance) if number % 3 == 0 else forward_plan(chance, 8)
            if len(plan.group_names) < 2:
                continue
            for more, less in (plan.group_names, plan.group_names[::-1]):
                if all(plan.looks_at(node, more) or not plan.looks_at(node, less) for node in plan):
                    position = random_position(chance, plan.goods)
                    most = [need(plan, less, position, end=end).amount for end in ENDS]
                    if None not in most:
                        for end in ENDS:
                            amount = need(plan, more, position, end=end).amount
                            self.assertTrue(amount is not None and amount <= max(most))
                            compared += amount > 0
        self.assertGreater(compared, 5)


class TestErrors(Promises):
    def test_errors_in_their_order(self):
        plan, other = example_plan(), Position.flat(("rye",))
        for call in (need, pays_at_most):
            for thing in THINGS:
                self.fails(NoGroup, (thing,), call, plan, thing, other, end=thing)
                self.fails(BadEnd, (thing,), call, plan, "firm", other, end=thing)
            for end in ENDS:
                self.fails(OtherGoods, (), call, plan, "firm", other, end=end)
            self.fails(OtherGoods, (), call, plan, "firm", Position.flat(("oil", "rye")))
            self.fails(OtherGoods, (), call, chain_plan(("rest",)), "firm", other, end="free")

    def test_great_numbers(self):
        table = Table.full(OIL, HUGE, cap=HUGE)
        plan = Plan(OIL, TABLES + (("far", table),), [("firm", "far")], [
            ("na", ("desk",), [("nb", None)]), ("nb", ("move", "far"), [("nc", None)]), ("nc", ("move", "day"), [("nd", None)]),
            ("nd", ("close",), [("nd", None)])])
        position = Position(OIL, (-HUGE,))
        self.same(need(plan, "firm", position).amount, HUGE * HUGE + 2 * HUGE)
        self.same(pays_at_most(plan, "firm", position), 2 * HUGE)


if __name__ == "__main__":
    unittest.main()
