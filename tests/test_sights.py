"""[9.3] to [9.5] and the interface of coveredday.sights."""

import random
import unittest

from coveredday.errors import BadSight, BadView, NoAsset, NoGroup, NoNode, NotSeen, OtherGoods
from coveredday.longwalk import LongWalk
from coveredday.plan import Plan
from coveredday.position import Position
from coveredday.sights import Outlook, sight, sights
from coveredday.tables import Table
from coveredday.views import known
from tests.common import THINGS, Promises, all_pairs
from tests.lookouts import Moves, followers_of, last_telling, plain_sight, raised_losses, stands, telling_places, walks_behind, worst
from tests.plans import KINDS, OIL, TABLES, chain_plan, example_plan, random_plan
from tests.test_phases import TWO_GROUPS

WORDS = ("tell", "desk", "free", "look", "close")
HUGE = 10 ** 40
MOVING = ("move", "move", "move", "tell", "desk", "look", "rest", "close", "free")


def plain_sights(plan, group, walk):
    return tuple(word for word in (plain_sight(plan, group, node) for node in walk) if word is not None)


def random_outlook(chance, plan, group, most):
    """An outlook with up to so many sights."""
    outlook = Outlook(plan, group)
    for _ in range(chance.randint(0, most)):
        if outlook.coming:
            outlook.see(chance.choice(outlook.coming))
    return outlook


class TestSights(Promises):
    def test_all_nodes(self):
        chance = random.Random(121)
        for _ in range(60):
            plan = random_plan(chance, 6)
            for group in plan.group_names:
                self.same([sight(plan, group, node) for node in plan], [plain_sight(plan, group, node) for node in plan])
                walk = [chance.choice(plan.node_names) for _ in range(9)]
                self.same(sights(plan, group, walk), plain_sights(plan, group, walk))
        self.same((sights(plan, group, ()), sights(plan, group, [])), ((), ()))

    def test_each_kind(self):
        steps = (("move", "day"), ("tell",), ("desk",), ("free",), ("look", ("firm",)), ("look", ("other", "firm")), ("close",), ("rest",))
        plan = chain_plan(*steps, groups=TWO_GROUPS)
        self.same(sights(plan, "firm", list(plan)), ("tell", "desk", "free", "look", "look", "close"))
        self.same(sights(plan, "other", tuple(plan)), ("tell", "desk", "free", "look", "close"))
        self.same([sight(plan, "other", node) for node in ("na", "ne", "nf", "nh")], [None, None, "look", None])

    def test_wrong_groups_and_nodes(self):
        plan = example_plan()
        for thing in THINGS:
            self.fails(NoGroup, (thing,), sight, plan, thing, thing)
            self.fails(NoNode, (thing,), sight, plan, "firm", thing)
            self.fails(NoGroup, (thing,), sights, plan, thing, [thing])
            self.fails(NoNode, (thing,), sights, plan, "firm", ["gap", "till", thing, None])
        self.fails(NoGroup, ("day",), sights, plan, "day", ())


class TestPlaces(Promises):
    def look(self, plan, group, seen, outlook):
        places = stands(plan, group, seen)
        words = {plain_sight(plan, group, node) for place in places for node, _ in followers_of(plan, place)}
        self.same(outlook.seen, seen)
        self.same(outlook.places, tuple(place for place in (None,) + plan.node_names if place in places))
        self.same(outlook.coming, tuple(word for word in WORDS if word in words))

    def test_rows_of_sights(self):
        chance = random.Random(122)
        for _ in range(120):
            plan = random_plan(chance, 7, 3)
            for group in plan.group_names:
                outlook, seen = Outlook(plan, group), ()
                for _ in range(6):
                    self.look(plan, group, seen, outlook)
                    for word in WORDS:
                        if word not in outlook.coming:
                            self.fails(NotSeen, (word,), outlook.see, word)
                    if outlook.coming:
                        seen += (chance.choice(outlook.coming),)
                        self.same(outlook.see(seen[-1]), outlook.places)
                self.look(plan, group, seen, Outlook(plan, group, list(seen)))

    def test_all_walks_of_small_plans(self):
        chance = random.Random(123)
        for _ in range(60):
            plan = random_plan(chance, 4, 2)
            group = plan.group_names[0]
            ends = {}
            for walk in walks_behind(plan, None, 8):
                ends.setdefault(plain_sights(plan, group, walk), set()).add(walk[-1] if walk else None)
            for seen, places in ends.items():
                outlook = Outlook(plan, group, seen)
                # The last node of a walk is among the places ([9.12]); walks of 8 nodes show all of the first ones.
                self.assertLessEqual(places, set(outlook.places))
                if len(seen) <= 1:
                    self.same(sorted(map(str, places)), sorted(map(str, outlook.places)))
                    self.assertEqual(set(outlook.coming), {other[-1] for other in ends if other[:-1] == seen and other != seen})

    def test_the_start_and_days_that_end_unseen(self):
        plan = chain_plan(("rest",), ("move", "day"), ("tell",), ("rest",))
        outlook = Outlook(plan, "firm")
        self.same((outlook.seen, outlook.places, outlook.coming), ((), (None, "na", "nb"), ("tell",)))
        self.same(outlook.see("tell"), ("nc", "nd"))
        self.same((outlook.seen, outlook.places, outlook.coming), (("tell",), ("nc", "nd"), ()))
        for word in WORDS:
            self.fails(NotSeen, (word,), outlook.see, word)
        self.same((outlook.plan == plan, outlook.group, Outlook.SIGHTS), (True, "firm", WORDS))

    def test_forty_sights(self):
        plan = example_plan()
        outlook = Outlook(plan, "firm")
        for word in ("tell", "desk", "close") * 13 + ("tell",):
            outlook.see(word)
        self.same((len(outlook.seen), outlook.places, outlook.loss(Position(OIL, (1,)))), (40, ("gap",), 0))
        self.same(outlook.worst_walk(Position(OIL, (1,))).behind, "gap")

    def test_wrong_words(self):
        plan = example_plan()
        outlook = Outlook(plan, "firm", ("tell",))
        for thing in THINGS + ("move", "rest", "stand"):
            self.fails(BadSight, (thing,), outlook.see, thing)
            self.fails(BadSight, (thing,), Outlook, plan, "firm", ["tell", thing, "free"])
            self.fails(NoGroup, (thing,), Outlook, plan, thing, [thing])
        self.fails(NotSeen, ("tell",), outlook.see, "tell")
        self.fails(NotSeen, ("desk",), Outlook, plan, "firm", ("desk", "x"))
        self.same((outlook.seen, outlook.places, outlook.coming), (("tell",), ("gap",), ("desk",)))

    def test_outlooks_have_nothing_in_common(self):
        seen = ["tell"]
        one, other = Outlook(example_plan(), "firm", seen), Outlook(example_plan(), "firm", seen)
        one.see("desk")
        seen.append("x")
        self.same((other.seen, other.places, one.seen, one.places), (("tell",), ("gap",), ("tell", "desk"), ("till", "shift")))


class TestPrices(Promises):
    def setUp(self):
        self.endless = self.numbers = 0

    def look(self, chance, plan, outlook):
        moves = Moves(plan)
        counts = [chance.randint(-3, 3) for _ in plan.goods]
        position, group, seen = Position(plan.goods, counts), outlook.group, outlook.seen
        expected = raised_losses(plan, group, seen, lambda one, other: worst(counts, moves.of_edge(one, other)),
                                 lambda node: worst(counts, moves.of_step(node)))
        self.same(outlook.loss(position), expected)
        self.look_at_walk(outlook, position, expected)
        told = [chance.randint(-5, 5) for _ in plan.goods]
        named = dict(zip(plan.goods, told), cash=0)
        for up, down in chance.sample(all_pairs(plan.goods), 2):
            rise, fall = [self.raised_entry(plan, outlook, one, other) for one, other in ((up, down), (down, up))]
            begun = named[up] - named[down]
            self.same(outlook.bounds(told, up, down), (
                None if fall is None else begun - fall, None if rise is None else begun + rise))
        self.same((outlook.bounds(told, "cash", "cash"), outlook.bounds(told, plan.goods[0], plan.goods[0])), ((0, 0), (0, 0)))
        self.same((outlook.seen, outlook.loss(position), outlook.bounds(told, up, down)), (
            seen, expected, Outlook(plan, group, seen).bounds(told, up, down)))
        self.endless += expected is None
        self.numbers += bool(expected)

    def raised_entry(self, plan, outlook, up, down):
        def weigh_edge(one, other):
            table = plan.edge_table(one, other)
            return 0 if table is None else table[up, down]

        def weigh_step(node):
            return plan.table_named(plan.step(node)[1])[up, down] if node is not None and plan.kind(node) == "move" else 0

        return raised_losses(plan, outlook.group, outlook.seen, weigh_edge, weigh_step)

    def look_at_walk(self, outlook, position, expected):
        """The worst walk is a part of a walk that agrees, behind its last telling, on which the loss is met."""
        walk = outlook.worst_walk(position)
        self.same((type(walk), walk.amount, walk.is_endless), (LongWalk, expected, expected is None))
        places, since = telling_places(outlook.plan, outlook.group, outlook.seen)
        self.assertIn(walk.behind, places)
        losses = []
        for turns in range(4):
            gone = walk.gone(turns)
            self.same(plain_sights(outlook.plan, outlook.group, gone), since)
            losses.append(known(outlook.plan, (0,) * len(position.goods), gone, walk.behind).loss(position))
        if expected is None:
            gains = [late - early for early, late in zip(losses, losses[1:])]
            self.assertTrue(walk.ring and gains[0] > 0 and gains == gains[:1] * 3)
        else:
            self.same((losses, walk.ring, walk.tail), ([expected] * 4, (), ()))

    def test_random_outlooks(self):
        chance = random.Random(124)
        for _ in range(300):
            plan = random_plan(chance, 6, 3, (0, 0, 1, 2), MOVING)
            for group in plan.group_names:
                self.look(chance, plan, random_outlook(chance, plan, group, 5))
        self.assertGreater(self.endless, 30)
        self.assertGreater(self.numbers, 30)

    def test_all_walks_of_plans_up_to_some_length(self):
        """Losses and bounds are those of the views of all walks that agree."""
        chance = random.Random(125)
        for _ in range(60):
            plan = random_plan(chance, 4, 2, (0, 1, 2), KINDS)
            group = plan.group_names[-1]
            position = Position(plan.goods, [chance.randint(-2, 2) for _ in plan.goods])
            told = (0,) * len(plan.goods)
            views = {}
            for walk in walks_behind(plan, None, 7):
                behind, part = last_telling(plan, walk)
                views.setdefault(plain_sights(plan, group, walk), set()).add((behind, part))
            for seen in chance.sample(sorted(views), min(len(views), 4)):
                outlook = Outlook(plan, group, seen)
                found = [known(plan, told, part, behind) for behind, part in views[seen]]
                most, loss = max(view.loss(position) for view in found), outlook.loss(position)
                least, greatest = outlook.bounds(told, plan.goods[0], "cash")
                bounds = [view.bounds(plan.goods[0], "cash") for view in found]
                self.assertTrue(loss is None or loss >= most)
                self.assertTrue(least is None or least <= min(bounds)[0])
                self.assertTrue(greatest is None or greatest >= max(one[1] for one in bounds))
                if len(seen) == 0 and loss is not None:
                    self.same(loss, most)

    def test_an_outlook_that_has_seen_nothing(self):
        plan = chain_plan(("move", "day"), ("rest",), ("move", "deep"), ("tell",))
        outlook = Outlook(plan, "firm")
        position = Position(OIL, (2,))
        self.same((outlook.loss(position), outlook.bounds((5,), "oil", "cash")), (12, (-1, 11)))
        walk = outlook.worst_walk(position)
        self.same((walk.amount, walk.behind, walk.first, walk.ring, walk.tail), (12, None, ("na", "nb", "nc"), (), ()))
        flat = outlook.worst_walk(Position.flat(OIL))
        self.same((flat.amount, flat.behind, flat.is_endless), (0, None, False))

    def test_endless_losses(self):
        nodes = [("na", ("tell",), [("nb", None)]), ("nb", ("move", "day"), [("nc", None), ("nd", None)]), ("nc", ("rest",), [("nb", None)]),
                 ("nd", ("desk",), [("na", None)])]
        plan = Plan(OIL, TABLES, [("firm", "deep")], nodes)
        outlook = Outlook(plan, "firm", ("tell",))
        position = Position(OIL, (-3,))
        self.same((outlook.loss(position), outlook.bounds((1,), "oil", "cash"), outlook.loss(Position.flat(OIL))), (None, (None, None), 0))
        walk = outlook.worst_walk(position)
        self.same((walk.amount, walk.behind, len(walk.gone(1000)) - len(walk.gone())), (None, "na", 2000))
        outlook.see("desk")
        self.same((outlook.loss(position), outlook.worst_walk(position).gone(2)[-1]), (None, "nd"))
        outlook.see("tell")
        self.same(outlook.places, ("na", "nb", "nc"))

    def test_one_side_may_be_endless(self):
        table = Table(OIL, [("oil", "cash", 1), ("cash", "oil", 0)])
        plan = Plan(OIL, [("up", table)], [("firm", "up")], [("na", ("move", "up"), [("na", None)])])
        outlook = Outlook(plan, "firm")
        self.same((outlook.bounds((4,), "oil", "cash"), outlook.bounds([4], "cash", "oil")), ((4, None), (None, -4)))
        self.same((outlook.loss(Position(OIL, (1,))), outlook.loss(Position(OIL, (-1,)))), (0, None))
        self.same((outlook.coming, outlook.places), ((), (None, "na")))

    def test_the_calm_table_of_the_last_edge(self):
        nodes = [("na", ("move", "deep"), [("nb", "day"), ("na", "zero")]), ("nb", ("desk",), [("nb", None)])]
        tables = TABLES + (("zero", Table.full(OIL, 0)),)
        outlook = Outlook(Plan(OIL, tables, [("firm", "deep")], nodes), "firm")
        self.same(outlook.loss(Position(OIL, (1,))), 4)
        outlook.see("desk")
        self.same(outlook.loss(Position(OIL, (1,))), 2)

    def test_errors(self):
        outlook = Outlook(example_plan(), "firm", ("tell", "desk"))
        for thing in THINGS:
            if not (type(thing) in (list, tuple) and len(thing) == 1 and type(thing[0]) is int):
                self.fails(BadView, ("told",), outlook.bounds, thing, thing, thing)
            if thing not in ("cash", "oil"):
                self.fails(NoAsset, (thing,), outlook.bounds, (HUGE,), thing, None)
                self.fails(NoAsset, (thing,), outlook.bounds, [HUGE], "oil", thing)
        for seen in ((), ("tell",), ("tell", "desk")):
            other = Position.flat(("rye",))
            self.fails(OtherGoods, (), Outlook(example_plan(), "firm", seen).loss, other)
            self.fails(OtherGoods, (), Outlook(example_plan(), "firm", seen).worst_walk, other)
        self.same(outlook.bounds((HUGE,), "oil", "cash"), (HUGE - 2, HUGE + 2))


if __name__ == "__main__":
    unittest.main()
