"""[9.7], [9.8] and the interface of coveredday.calls."""

import random
import unittest
from itertools import product

from coveredday.account import Account
from coveredday.calls import Call, call
from coveredday.errors import BadAccount, BadView
from coveredday.house import House
from coveredday.longwalk import LongWalk
from coveredday.orders import Order
from coveredday.parcels import Parcels
from coveredday.plan import Plan
from coveredday.position import Position
from coveredday.sights import Outlook, sights
from coveredday.tables import Table
from tests.common import THINGS, Promises
from tests.lookouts import Moves, followers_of, plain_sight, telling_places, worst
from tests.plans import GROUPS, OIL, TABLES, chain_plan, example_plan, forward_plan, random_plan
from tests.test_phases import TWO_GROUPS
from tests.test_sights import random_outlook

HUGE = 10 ** 40
KINDS = ("move", "move", "move", "tell", "tell", "desk", "look", "look", "rest")
DEEP = dict(TABLES)["deep"]


def plain_corners(account):
    """Cash and counts behind all corners, worked out anew, the first order turning fastest."""
    for taken in product((0, 1), repeat=len(account.orders)):
        taken = taken[::-1]
        cash, counts = account.cash, list(account.position.counts)
        for order, whole in zip(account.orders, taken):
            pieces = whole * order.count * (1 if order.side == "buy" else -1)
            cash -= pieces * order.limit
            counts = [count + pieces * more for count, more in zip(counts, account.parcels.apart(order.thing).counts)]
        yield tuple(order.count * whole for order, whole in zip(account.orders, taken)), cash, counts


def raised_ways(plan, group, seen, weigh):
    """The greatest loss on all ways of at most so many nodes: the pair of it for as many as there are states, twice,
    and for twice as many, each None if there is no way. If it still grows then, it is endless."""
    starts, since = telling_places(plan, group, seen)
    # For each state the greatest sum of all edges, and the greatest sum up to a last telling.
    rows = {(0, node): (0, 0) for node in starts}
    states = (len(since) + 1) * (len(plan.nodes) + 1)
    top, tops = None, []
    for _ in range(4 * states + 4):
        late = {}
        for (count, node), (all_of_it, told) in rows.items():
            for other, _ in followers_of(plan, node):
                word, now = plain_sight(plan, group, other), all_of_it + weigh(node, other)
                if count == len(since) and word == "look":
                    top = told if top is None else max(top, told)
                    continue
                if count < len(since) and word not in (None, since[count]):
                    continue
                state = (count + (count < len(since) and word is not None), other)
                before = late.get(state, (0, 0))
                late[state] = (max(before[0], now), max(before[1], now if word == "tell" else told))
        rows = late
        tops.append(top)
    return tops[2 * states + 2], tops[-1]


def told_loss(plan, behind, way, weigh):
    """The sum of what is lost on a way up to its last telling."""
    places = (behind,) + way
    tells = [at for at, node in enumerate(way) if plan.kind(node) == "tell"]
    return sum(weigh(one, other) for one, other in list(zip(places, way))[:tells[-1] + 1]) if tells else 0


def looked_at(plan, group):
    return any(plan.kind(node) == "look" and plan.looks_at(node, group) for node in plan)


def random_account(chance, goods, most_orders):
    parcels = Parcels(goods, [("pack", [(good, chance.choice((-1, 1))) for good in goods])])
    orders = [Order("ann", chance.choice(parcels.things), chance.choice(("buy", "sell")), chance.randint(1, 3), chance.randint(-3, 3))
              for _ in range(chance.randint(0, most_orders))]
    return Account(chance.randint(-9, 9), Position(goods, [chance.randint(-2, 2) for _ in goods]), orders, parcels=parcels)


class TestCalls(Promises):
    def setUp(self):
        self.kinds = {"none": 0, "endless": 0, "number": 0}

    def look(self, plan, outlook, account, told):
        """Looks at a call: at its amount, its slack and its fill, and at the ways that it shows."""
        before = repr((outlook.seen, outlook.places, vars(account), told))
        first, found = call(outlook, account, told), call(outlook, account, told)
        self.same((type(found), vars(found)), (Call, vars(first)))
        self.same(repr((outlook.seen, outlook.places, vars(account), told)), before)
        self.assertIsInstance(found, LongWalk)
        moves, group, seen = Moves(plan), outlook.group, outlook.seen
        lows = []
        for taken, cash, counts in plain_corners(account):
            few, many = raised_ways(plan, group, seen, lambda one, other: worst(counts, moves.of_edge(one, other)))
            if many is None:
                self.same((found.amount, found.slack, found.taken, found.behind, found.first, found.ring, found.tail),
                          (0, None, (), None, (), (), ()))
                self.kinds["none"] += 1
                return
            now = cash + sum(count * price for count, price in zip(counts, told))
            now -= worst(counts, moves.within[dict(plan.groups)[group]])
            if few != many:
                self.same((found.amount, found.slack, found.taken, found.is_endless), (None, None, taken, True))
                self.look_at_ways(plan, outlook, found, counts, moves, None)
                self.kinds["endless"] += 1
                return
            lows.append((now - many, taken, counts, many))
        least = min(low for low, _, _, _ in lows)
        _, taken, counts, loss = [row for row in lows if row[0] == least][0]
        self.same((found.amount, found.slack, found.taken, found.ring, found.tail), (max(0, -least), least, taken, (), ()))
        self.look_at_ways(plan, outlook, found, counts, moves, loss)
        self.kinds["number"] += 1

    def look_at_ways(self, plan, outlook, found, counts, moves, loss):
        """Each way shown ends at the first look behind all that was seen, and loses what is told."""
        places, since = telling_places(plan, outlook.group, outlook.seen)
        self.assertIn(found.behind, places)
        losses = []
        for turns in range(4):
            way = found.gone(turns)
            near = [node for node, _ in followers_of(plan, found.behind)]
            for node in way:
                self.assertIn(node, near)
                near = [other for other, _ in followers_of(plan, node)]
            words = [plain_sight(plan, outlook.group, node) for node in way if plain_sight(plan, outlook.group, node) is not None]
            self.same((tuple(words[:len(since)]), words[len(since):].count("look"), words[-1], way[-1]),
                      (since, 1, "look", [node for node in way if plain_sight(plan, outlook.group, node) == "look"][-1]))
            losses.append(told_loss(plan, found.behind, way, lambda one, other: worst(counts, moves.of_edge(one, other))))
        if loss is None:
            gains = [late - early for early, late in zip(losses, losses[1:])]
            self.assertTrue(found.ring and gains[0] > 0 and gains == gains[:1] * 3)
        else:
            self.same(losses, [loss] * 4)

    def test_random_calls(self):
        chance = random.Random(131)
        for number in range(500):
            plan = random_plan(chance, 6, 3, (0, 0, 1, 2), KINDS) if number % 3 else forward_plan(chance, 8)
            for group in [group for group in plan.group_names if number % 9 == 0 or looked_at(plan, group)]:
                outlook = random_outlook(chance, plan, group, 3)
                account = random_account(chance, plan.goods, 2)
                self.look(plan, outlook, account, [chance.randint(-4, 4) for _ in plan.goods])
        self.assertTrue(min(self.kinds.values()) > 20, self.kinds)

    def test_accounts_with_five_orders(self):
        chance = random.Random(132)
        for _ in range(12):
            plan = random_plan(chance, 5, 2, (0, 1), KINDS)
            goods = plan.goods
            orders = [Order("ann", chance.choice(goods), chance.choice(("buy", "sell")), chance.randint(1, 3), chance.randint(-3, 3)) for _ in range(5)]
            account = Account(3, Position.flat(goods), orders, parcels=Parcels(goods))
            self.look(plan, Outlook(plan, plan.group_names[0]), account, (1,) * len(goods))

    def test_no_look_to_come(self):
        account = Account(-5, Position(OIL, (3,)), parcels=Parcels(OIL))
        for plan, seen in ((example_plan(), ("tell",)), (chain_plan(("look", ("other",)), ("close",), groups=TWO_GROUPS), ()),
                           (chain_plan(("look", ("firm",)), ("move", "day"), ("tell",)), ("look",))):
            found = call(Outlook(plan, "firm", seen), account, (0,))
            self.same((found.amount, found.slack, found.taken, found.behind, found.first, found.is_endless), (0, None, (), None, (), False))

    def test_a_look_without_a_telling_ahead_of_it_goes_by_what_was_told(self):
        plan = chain_plan(("tell",), ("move", "deep"), ("look", ("firm",)), ("move", "day"), ("tell",), ("look", ("firm",)), ("close",))
        account = Account(0, Position(OIL, (1,)), parcels=Parcels(OIL))
        for seen, told, expected in (
                (("tell",), (4,), (0, 0, ("nb", "nc"))), (("tell",), (3,), (1, -1, ("nb", "nc"))),
                (("tell", "look"), (10,), (0, 0, ("nb", "nc", "nd", "ne", "nf"))), (("tell", "look"), (9,), (1, -1, ("nb", "nc", "nd", "ne", "nf"))),
                (("tell", "look", "tell"), (0,), (4, -4, ("nf",)))):
            found = call(Outlook(plan, "firm", seen), account, told)
            self.same((found.amount, found.slack, found.first), expected)
        self.same(found.behind, "ne")

    def test_endless_ways(self):
        nodes = [("na", ("move", "day"), [("nb", None)]), ("nb", ("tell",), [("na", None), ("nc", None)]), ("nc", ("look", ["firm"]), [("na", None)])]
        plan = Plan(OIL, TABLES, GROUPS, nodes)
        account = Account(100, Position.flat(OIL), [Order("ann", "oil", "sell", 2, 7), Order("ann", "oil", "buy", 2, 7)], parcels=Parcels(OIL))
        found = call(Outlook(plan, "firm"), account, (7,))
        self.same((found.amount, found.slack, found.taken, found.behind, found.is_endless), (None, None, (2, 0), None, True))
        found = call(Outlook(plan, "firm"), account.without([0, 1]), (7,))
        self.same((found.amount, found.slack, found.taken), (0, 100, ()))

    def test_the_first_corner_with_the_least_low(self):
        plan = chain_plan(("move", "day"), ("tell",), ("look", ("firm",)), ("close",))
        orders = [Order("ann", "oil", "buy", 3, 1), Order("ann", "oil", "sell", 3, -1)]
        found = call(Outlook(plan, "firm"), Account(2, Position.flat(OIL), orders, parcels=Parcels(OIL)), [0])
        self.same((found.amount, found.slack, found.taken), (19, -19, (3, 0)))

    def test_calls_are_made_by_keywords(self):
        found = Call(None, slack=None, taken=[1, 2], behind="x", first=["a"], ring=["b"], tail=["c"])
        self.same((found.amount, found.slack, found.taken, found.behind, found.gone(2)), (None, None, (1, 2), "x", ("a", "b", "b", "c")))
        found = Call(3, slack=-3, taken=(), behind=None, first=())
        self.same((found.ring, found.tail, found.is_endless), ((), (), False))


class TestOnDays(Promises):
    """A member that pays in what is called passes the look on each day; with less it fails on some day."""

    def slacks_at_looks(self, plan, moves, outlook, account, told):
        """The least slacks of the corners at the prices told last ahead of the next look, on all ways and by all moves."""
        places, since = telling_places(plan, outlook.group, outlook.seen)
        cover = moves.within[dict(plan.groups)[outlook.group]]
        rows = [(0, node, None, tuple(told), tuple(told)) for node in places]
        for count, node, _, true, last in rows:
            for other, _ in followers_of(plan, node):
                word = plain_sight(plan, outlook.group, other)
                if count < len(since) and word not in (None, since[count]):
                    continue
                for move in moves.of_edge(node, other) or [(0,) * len(plan.goods)]:
                    prices = tuple(map(sum, zip(true, move)))
                    if count == len(since) and word == "look":
                        for _, cash, counts in plain_corners(account):
                            yield cash + sum(one * price for one, price in zip(counts, last)) - worst(counts, cover)
                    elif other != node:
                        late = count + (count < len(since) and word is not None)
                        rows.append((late, other, None, prices, prices if word == "tell" else last))

    def test_all_ways_and_all_moves(self):
        chance = random.Random(133)
        seen = 0
        for _ in range(300):
            plan = forward_plan(chance, 7)
            if not looked_at(plan, plan.group_names[0]):
                continue
            moves = Moves(plan)
            outlook = random_outlook(chance, plan, plan.group_names[0], 2)
            account = random_account(chance, plan.goods, 2)
            told = [chance.randint(-3, 3) for _ in plan.goods]
            slacks = list(self.slacks_at_looks(plan, moves, outlook, account, told))
            self.same(call(outlook, account, told).slack, min(slacks, default=None))
            seen += len(slacks) > 0
        self.assertGreater(seen, 40)

    def test_in_a_house(self):
        """Each way on from a desk, found by trials: who paid in what was called passes the next look."""
        steps = (("tell",), ("desk",), ("move", "day"), ("rest",), ("tell",), ("move", "deep"), ("look", ("firm",)), ("close",))
        plan = chain_plan(*steps, back="na")
        for limit, amount, extra in ((None, 1, 0), (7, 4, 0), (11, 1, 0), (None, 1, -1), (7, 4, -1), (7, 4, -3)):
            house = House(plan, (10,), [("ann", "firm", 5), ("bob", "firm", 100)])
            house.enter("na")
            house.enter("nb")
            house.order("bob", "oil", "sell", 1, 10)
            house.order("ann", "oil", "buy", 1, 10)
            if limit is not None:
                house.order("ann", "oil", "buy" if limit == 7 else "sell", 1, limit)
            walk = [row[1] for row in house.daybook().of("entered")]
            outlook = Outlook(plan, "firm", sights(plan, "firm", walk))
            found = call(outlook, house.account_of("ann"), house.told_prices)
            self.same((found.amount, found.slack, found.behind, found.first), (amount, -amount, "na", tuple(plan)[1:7]))
            if amount + extra:
                house.pay_in("ann", amount + extra)
            marked = []
            for number, late, deed in product(range(-2, 3), range(-4, 5), (None, "sell", "buy")):
                with house.trial():
                    if deed is not None:
                        house.order("bob", "oil", deed, 1, limit or 9)
                    for node, move in (("nc", (number,)), ("nd", None), ("ne", None), ("nf", (late,)), ("ng", None)):
                        house.enter(node, move)
                    marked.append(house.is_marked("ann"))
            self.same(any(marked), extra < 0)


class TestErrors(Promises):
    def test_errors_in_their_order(self):
        outlook = Outlook(example_plan(), "firm")
        other = Account(1, Position.flat(("rye",)), parcels=Parcels(("rye",)))
        right = Account(1, Position.flat(OIL), parcels=Parcels(OIL))
        for thing in THINGS:
            if not (type(thing) in (list, tuple) and len(thing) == 1 and type(thing[0]) is int):
                self.fails(BadView, ("told",), call, outlook, other, thing)
                self.fails(BadView, ("told",), call, outlook, right, thing)
        self.fails(BadAccount, ("position",), call, outlook, other, (1,))
        many = Account(1, Position.flat(("oil", "rye")), parcels=Parcels(("oil", "rye")))
        self.fails(BadAccount, ("position",), call, outlook, many, [HUGE])

    def test_great_numbers(self):
        table = Table.full(OIL, HUGE, cap=HUGE)
        nodes = [("na", ("move", "far"), [("nb", None)]), ("nb", ("tell",), [("nc", None)]), ("nc", ("look", ["firm"]), [("na", None)])]
        outlook = Outlook(Plan(OIL, [("far", table)], [("firm", "far")], nodes), "firm")
        found = call(outlook, Account(0, Position(OIL, (2,)), parcels=Parcels(OIL)), (-HUGE,))
        self.same((found.amount, found.slack), (6 * HUGE, -6 * HUGE))


if __name__ == "__main__":
    unittest.main()
