"""[8.1] to [8.13], [8.15] and the interface of coveredday.house, trials included."""

import collections
import random
import unittest

from coveredday.account import Account
from coveredday.daybook import DayBook
from coveredday.errors import BadAmount, BadDeed, BadHouse, BadMove, BadOrder, Marked, NoEdge, NoGroup, NoMember, NoNode
from coveredday.errors import NoOrder, NoThing, NotCalm, NotCovered, NotHeld, NotNow, OwnTrade, TooMany
from coveredday.fills import worst_fill
from coveredday.house import House
from coveredday.orders import Order
from coveredday.parcels import Parcels
from coveredday.plan import Plan
from coveredday.position import Position
from coveredday.tables import Table
from tests.common import THINGS, Promises
from tests.houses import NAMES, bent, outcome, right_deed, sums_of, told_state, two_houses
from tests.plans import OIL, TABLES, chain_plan, example_plan

HUGE = 10 ** 40
TWO_GROUPS = (("firm", "deep"), ("other", "day"))
ANN = (("ann", "firm", 9),)
BOTH = ANN + (("bob", "firm", 9),)


def at_desk(cash=9, names=("ann", "bob"), **named):
    """A house that stands at a desk behind a telling at the price 10; the cover of one piece is 4."""
    house = House(example_plan(), (10,), [(name, "firm", cash) for name in names], **named)
    house.enter("gap")
    house.enter("till")
    return house


def at_free(cash=9, price=10, **named):
    """A house that stands at a free node; the told price is 10."""
    plan = chain_plan(("free",), ("move", "day"), ("look", ("firm",)), ("close",), ("desk",), back="na")
    house = House(plan, (price,), [(name, "firm", cash) for name in ("ann", "bob")], **named)
    house.enter("na")
    return house


class TestExample(Promises):
    def test_the_example_of_part_8(self):
        house = House(example_plan(), (10,), BOTH)
        self.same((house.enter("gap"), house.enter("till")), (None, None))
        self.same(house.order("ann", "oil", "buy", 1, 11), 0)
        self.same(house.slack_of("ann"), 4)
        self.same(house.order("bob", "oil", "sell", 1, 10), 1)
        self.same(house.daybook().of("filled"), (("filled", "ann", "bob", "oil", 1, 11),))
        self.same((house.cash_of("ann"), house.cash_of("bob")), (-2, 20))
        self.fails(NotCovered, ("ann", 1), house.pay_out, "ann", 5)
        self.same(house.pay_out("ann", 4), None)
        self.same((house.cash_of("ann"), house.slack_of("ann")), (-6, 0))
        house.enter("shift", (-2,))
        self.same((house.true_prices, house.told_prices), ((8,), (10,)))
        self.same(house.notice("ann"), True)
        house.enter("bar")
        self.same((house.cash_of("ann"), house.street_cash, house.paid_total), (2, -8, 0))
        self.assertTrue(house.street_position == Position(OIL, (1,)))
        self.same(tuple(house.daybook()), (
            ("entered", "gap"), ("entered", "till"), ("filled", "ann", "bob", "oil", 1, 11), ("paid_out", "ann", 4),
            ("entered", "shift"), ("marked", "ann", "notice"), ("entered", "bar"), ("closed", "ann", 8, 2)))


class TestAgainstThePlainHouse(Promises):
    def test_random_days(self):
        """Right and wrong deeds of any kind: the same answers, errors and states, and the sums of [8.15]."""
        chance = random.Random(101)
        seen = collections.Counter()
        for _ in range(160):
            house, plain = two_houses(chance)
            begun = sums_of(house, ())
            for number in range(60):
                deed = right_deed(chance, plain)
                deed = bent(chance, deed) if chance.random() < 0.25 else deed
                before, passed = told_state(house) if number % 7 == 0 else None, repr(deed)
                found, expected = outcome(house, deed), outcome(plain, deed)
                self.same(found, expected)
                self.same(deed, eval(passed))
                if before is not None and found[0] == "refused":
                    self.same(told_state(house), before)
                seen[expected[1][:1 + (expected[1][0] == "BadMove")] if expected[0] == "refused" else "told"] += 1
                if number % 10 == 0:
                    self.same(sums_of(house, tuple(house.daybook())), begun)
            self.same(told_state(house), plain.told_state())
            self.same(sums_of(house, tuple(house.daybook())), begun)
        for word in ("BadDeed", "NoNode", "NoEdge", "NotCalm", "NotNow", "NoMember", "Marked", "NoThing", "BadOrder", "TooMany",
                     "NotCovered", "NoOrder", "BadAmount", "NotHeld", "OwnTrade"):
            self.assertTrue(seen[(word,)] > 0 or word == "NotNow", word)
        for word in ("missing", "move", "number", "table", "given"):
            self.assertGreater(seen["BadMove", word], 0, word)

    def test_deeds_at_any_place(self):
        """Deeds of other kinds of nodes, with any objects: which error comes first."""
        chance = random.Random(102)
        seen = collections.Counter()
        deeds = (("order", "ann", "a", "buy", 1, 1), ("cancel", 0), ("pay_in", "ann", 1), ("pay_out", "ann", 1),
                 ("apart", "ann", "pair", 1), ("together", "ann", "pair", 1), ("trade", "ann", "bob", "a", 1), ("notice", "ann"))
        for _ in range(90):
            house, plain = two_houses(chance)
            for _ in range(25):
                outcomes = [(outcome(one, deed), outcome(other, deed)) for one, other, deed in [
                    (house, plain, right_deed(chance, plain)), (house, plain, bent(chance, chance.choice(deeds)))]]
                for found, expected in outcomes:
                    self.same(found, expected)
                    seen[found[1][0] if found[0] == "refused" else "told"] += 1
            self.same(told_state(house), plain.told_state())
        self.assertGreater(seen["NotNow"], 100)

    def test_trials_of_random_days(self):
        """What comes in a trial is gone behind it, also behind an error and within another trial."""
        chance = random.Random(103)
        for _ in range(50):
            house, plain = two_houses(chance)
            self.random_trial(chance, house, plain, 0)
            for _ in range(10):
                deed = right_deed(chance, plain)
                self.same(outcome(house, deed), outcome(plain, deed))
            self.same(told_state(house), plain.told_state())

    def random_trial(self, chance, house, plain, depth):
        for _ in range(chance.randint(0, 3)):
            for _ in range(chance.randint(0, 12)):
                deed = right_deed(chance, plain)
                self.same(outcome(house, deed), outcome(plain, deed))
            if depth < 4:
                before = told_state(house)
                inner = plain.copied()
                ends_by_error = chance.random() < 0.5
                try:
                    with house.trial() as held:
                        self.assertIs(held, house)
                        self.random_trial(chance, held, inner, depth + 1)
                        self.same(told_state(house), inner.told_state())
                        if ends_by_error:
                            held.enter("nowhere")
                except NoNode as fault:
                    self.assertTrue(ends_by_error and fault.node == "nowhere")
                else:
                    self.assertFalse(ends_by_error)
                self.same(told_state(house), before)


class TestWrongHouses(Promises):
    def test_words(self):
        plan = example_plan()
        self.fails(BadHouse, ("parcels", None), House, plan, None, None, parcels=Parcels(("rye",)))
        self.fails(BadHouse, ("parcels", None), House, plan, (1,), BOTH, parcels=Parcels(("oil", "rye")))
        for prices in ((), (1, 2), (True,), (None,), (10 ** 12 + 1,), (-10 ** 12 - 1,), 1, "1", None, ((1,),), (HUGE,)):
            self.fails(BadHouse, ("prices", None), House, plan, prices, None)
        for members in ((), [], None, "ann", ANN * 9, 1, True):
            self.fails(BadHouse, ("members", None), House, plan, (1,), members)
        for wrong, word in (
                ("ann", "member"), (("ann", "firm"), "member"), (("ann", "firm", 1, 1), "member"), (None, "member"),
                (("Ann", None, -1), "name"), ((None, "firm", 0), "name"), (("bob", "firm", 0), "name"), ((["ann"], "firm", 0), "name"),
                (("ann", "day", -1), "group"), (("ann", None, None), "group"), (("ann", ["firm"], 0), "group"),
                (("ann", "firm", -1), "cash"), (("ann", "firm", True), "cash"), (("ann", "firm", 10 ** 18 + 1), "cash"),
                (("ann", "firm", None), "cash"), (("ann", "firm", "1"), "cash")):
            self.fails(BadHouse, (word, 1), House, plan, (1,), [["bob", "firm", 0], wrong, ("bob", "x", -1)])
            if word != "name" or wrong[0] != "bob":
                self.fails(BadHouse, (word, 0), House, plan, (1,), [wrong])

    def test_any_objects(self):
        plan = example_plan()
        for thing in THINGS:
            if thing is not None:
                self.fails(BadHouse, ("parcels", None), House, plan, thing, thing, parcels=thing)
            if not (type(thing) in (tuple, list) and len(thing) == 1 and type(thing[0]) is int):
                self.fails(BadHouse, ("prices", None), House, plan, thing, thing)
            if type(thing) not in (tuple, list) or not thing:
                self.fails(BadHouse, ("members", None), House, plan, [1], thing)
            if not (type(thing) in (tuple, list) and len(thing) == 3):
                self.fails(BadHouse, ("member", 1), House, plan, [1], BOTH[:1] + (thing,))
            if not (isinstance(thing, str) and thing.isascii() and thing.isalpha() and thing.islower() and len(thing) < 13):
                self.fails(BadHouse, ("name", 0), House, plan, [1], [(thing, thing, thing)])
            self.fails(BadHouse, ("group", 0), House, plan, [1], [("bob", thing, thing)])
            if not (type(thing) is int and 0 <= thing <= 10 ** 18):
                self.fails(BadHouse, ("cash", 0), House, plan, [1], [("bob", "firm", thing)])

    def test_1_and_8_members_and_the_bounds(self):
        plan = example_plan()
        for count in (1, 8):
            for price in (-10 ** 12, 10 ** 12):
                members = [[name, "firm", cash] for name, cash in zip(NAMES, (0, 10 ** 18) * 4)][:count]
                house = House(plan, [price], members)
                self.same(house.member_names, NAMES[:count])
                self.same((house.true_prices, house.told_prices), ((price,), (price,)))
                self.same([house.cash_of(name) for name in NAMES[:count]], [row[2] for row in members])

    def test_the_beginning(self):
        parcels = Parcels(OIL, [("pack", [("oil", 2)])])
        plan = example_plan()
        house = House(plan, (3,), BOTH, parcels=parcels)
        self.same(told_state(house), (None, (3,), (3,), 0, 0, (0,), (
            ("ann", "firm", 9, (0,), (), (), False, 9), ("bob", "firm", 9, (0,), (), (), False, 9)), ()))
        self.assertTrue(house.plan == plan and house.parcels == parcels and House(plan, (3,), ANN).parcels == Parcels(OIL))
        self.same(type(house.street_position), Position)

    def test_what_is_passed_in_is_not_kept(self):
        prices, row, names = [3], ["ann", "firm", 9], ["oil"]
        members = [row]
        house = House(Plan(names, TABLES, [("firm", "deep")], example_plan().nodes), prices, members)
        before = told_state(house)
        prices[0], row[2], names[0] = 5, 8, "rye"
        members.append(["bob", "firm", 1])
        self.same(told_state(house), before)
        house.enter("gap")
        house.enter("till")
        move = [2]
        house.enter("shift", move)
        move[0] = 1
        self.same((house.true_prices, move), ((5,), [1]))


class TestEntering(Promises):
    def test_errors_in_their_order(self):
        house = House(example_plan(), (10,), BOTH)
        for thing in THINGS + (None, "firm", "deep"):
            self.fails(NoNode, (thing,), house.enter, thing, thing)
        self.fails(NoEdge, (None, "shift"), house.enter, "shift", "x")
        self.fails(NoEdge, (None, "till"), house.enter, "till", "x")
        for thing in THINGS:
            if thing is not None:
                self.fails(BadMove, ("given",), house.enter, "gap", thing)
        house.enter("gap", None)
        self.fails(NoEdge, ("gap", "gap"), house.enter, "gap")
        house.enter("till")
        self.fails(BadMove, ("missing",), house.enter, "shift")
        for thing in THINGS:
            if thing is None or thing in ([0], (0,)):
                continue
            word = "move" if type(thing) not in (list, tuple) or len(thing) != 1 else "number"
            self.fails(BadMove, (word,), house.enter, "shift", thing)
        for number in (3, -3, HUGE):
            self.fails(BadMove, ("table",), house.enter, "shift", (number,))
        house.enter("shift", [-2])
        self.same(house.true_prices, (8,))

    def calm_house(self):
        nodes = [("na", ("move", "deep"), [("na", "day"), ("nb", None), ("nc", "day")]), ("nb", ("tell",), [("na", None)]),
                 ("nc", ("rest",), [("na", None)])]
        return House(Plan(OIL, TABLES, [("firm", "deep")], nodes), (0,), ANN)

    def test_calm_tables(self):
        house = self.calm_house()
        for move in ((3,), (-4,)):
            with house.trial():
                house.enter("na", move)
                for told in (None, (0,), (HUGE,), "x"):
                    self.fails(NotCalm, ("na", "na"), house.enter, "na", told)
                    self.fails(NotCalm, ("na", "nc"), house.enter, "nc", told)
                house.enter("nb")
        for move in ((2,), (-2,), (0,)):
            with house.trial():
                house.enter("na", move)
                self.fails(BadMove, ("given",), house.enter, "nc", (0,))
                self.fails(BadMove, ("table",), house.enter, "na", (5,))
                house.enter("na", (4,))
                self.fails(NotCalm, ("na", "nc"), house.enter, "nc")
        house.enter("na", (1,))
        house.enter("nc")
        house.enter("na", (4,))
        self.same(house.true_prices, (5,))

    def test_telling(self):
        house = self.calm_house()
        house.enter("na", (4,))
        self.same((house.true_prices, house.told_prices), ((4,), (0,)))
        house.enter("nb")
        house.enter("na", (3,))
        self.same((house.true_prices, house.told_prices), ((7,), (4,)))

    def test_looks(self):
        """Looks at groups: a slack of just 0 and of -1; who is marked already or not of the group is passed over."""
        plan = chain_plan(("free",), ("look", ("firm",)), ("look", ("other",)), ("look", ("other", "firm")), ("close",), groups=TWO_GROUPS)
        members = [("ann", "firm", 4), ("bob", "other", 0), ("cal", "firm", 3), ("dan", "firm", 0), ("eve", "other", 0)]
        house = House(plan, (10,), members)
        house.enter("na")
        house.trade("ann", "bob", "oil", 1)
        house.trade("cal", "bob", "oil", 1)
        house.trade("dan", "eve", "oil", 1)
        self.same([house.slack_of(name) for name in house.member_names], [0, -4, -1, -4, -2])
        self.same(house.notice("dan"), True)
        house.enter("nb")
        marked = [("marked", "dan", "notice"), ("entered", "nb"), ("marked", "cal", "look")]
        self.same(list(house.daybook().since(4)), marked)
        house.enter("nc")
        house.enter("nd")
        marked += [("entered", "nc"), ("marked", "bob", "look"), ("marked", "eve", "look"), ("entered", "nd")]
        self.same(list(house.daybook().since(4)), marked)
        self.same([house.is_marked(name) for name in house.member_names], [False, True, True, True, True])
        house.enter("ne")
        self.same(house.daybook().of("closed"), (
            ("closed", "bob", -20, 0), ("closed", "cal", 10, 3), ("closed", "dan", 10, 0), ("closed", "eve", -10, 0)))
        self.same((house.street_cash, house.street_position.counts, house.paid_total), (10, (-1,), 0))

    def test_a_flat_member_is_covered_with_a_cash_of_0(self):
        plan = chain_plan(("free",), ("look", ("firm",)), ("close",))
        house = House(plan, (10,), [("ann", "firm", 0), ("bob", "firm", 0)])
        house.enter("na")
        house.enter("nb")
        self.same((house.is_marked("ann"), house.slack_of("ann")), (False, 0))

    def test_open_orders_count_at_a_look(self):
        plan = chain_plan(("desk",), ("move", "deep"), ("tell",), ("look", ("firm",)), ("close",), back="na")
        house = House(plan, (10,), [("ann", "firm", 5), ("bob", "firm", 5)])
        house.enter("na")
        house.order("ann", "oil", "buy", 1, 10)
        house.order("bob", "oil", "sell", 1, 11)
        house.enter("nb", (-2,))
        house.enter("nc")
        self.same((house.slack_of("ann"), house.slack_of("bob")), (-1, 4))
        house.enter("nd")
        self.same((house.is_marked("ann"), house.orders_of("ann"), house.is_marked("bob")), (True, (), False))
        self.same([number for number, _ in house.orders_of("bob")], [1])

    def test_closing_out(self):
        """A cash of just 0 behind a closing, of less, and members that are marked while they hold nothing."""
        house = at_free(cash=8)
        house.trade("ann", "bob", "oil", 4)
        house.enter("nb", (-2,))
        house.notice("bob")
        house.notice("ann")
        house.enter("nc")
        with house.trial():
            house.enter("nd")
            self.same(house.daybook().since(5), (("entered", "nc"), ("entered", "nd"), ("closed", "ann", 32, 0), ("closed", "bob", -32, 16)))
            self.same((house.cash_of("ann"), house.holdings_of("ann"), house.is_marked("ann"), house.paid_total), (0, (), False, 0))
        house = at_free(cash=7)
        house.trade("ann", "bob", "oil", 4)
        house.enter("nb", (-2,))
        house.notice("ann")
        house.enter("nc")
        house.enter("nd")
        self.same(house.daybook().since(4), (
            ("entered", "nc"), ("marked", "bob", "look"), ("entered", "nd"), ("closed", "ann", 32, -1), ("paid", "ann", 1),
            ("closed", "bob", -32, 15)))
        self.same((house.paid_total, house.cash_of("ann")), (1, 0))
        house.enter("ne")
        house.notice("ann")
        for node, move in (("na", None), ("nb", (2,)), ("nc", None), ("nd", None)):
            house.enter(node, move)
        self.same(house.daybook().of("closed")[-1], ("closed", "ann", 0, 0))
        self.same((house.is_marked("ann"), house.paid_total), (False, 1))


class TestDesk(Promises):
    def test_not_now_comes_first(self):
        house = House(example_plan(), (10,), BOTH)
        for node, move in ((None, None), ("gap", None), ("till", None), ("shift", (0,)), ("bar", None)):
            if node is not None:
                house.enter(node, move)
            for thing in THINGS:
                if node != "till":
                    for word, count in (("order", 5), ("cancel", 1), ("pay_in", 2), ("pay_out", 2), ("apart", 3), ("together", 3)):
                        call = {"order": house.order, "cancel": house.cancel, "pay_in": house.pay_in, "pay_out": house.pay_out,
                                "apart": house.apart, "together": house.together}[word]
                        self.fails(NotNow, (word,), call, *(thing,) * count)
                self.fails(NotNow, ("trade",), house.trade, thing, thing, thing, thing)

    def test_wrong_orders(self):
        house = at_desk(names=("ann", "bob", "cal"), parcels=Parcels(OIL, [("pack", [("oil", 2)])]))
        house.notice("cal")
        for thing in THINGS:
            self.fails(NoMember, (thing,), house.order, thing, thing, thing, thing, thing)
            self.fails(Marked, ("cal",), house.order, "cal", thing, thing, thing, thing)
            if thing != "oil":
                self.fails(NoThing, (thing,), house.order, "ann", thing, thing, thing, thing)
            if thing not in ("buy", "sell"):
                self.fails(BadOrder, ("side",), house.order, "ann", "pack", thing, thing, thing)
            if not (type(thing) is int and 1 <= thing <= 10 ** 6):
                self.fails(BadOrder, ("count",), house.order, "ann", "oil", "sell", thing, thing)
            if not (type(thing) is int and abs(thing) <= 10 ** 12):
                self.fails(BadOrder, ("limit",), house.order, "ann", "pack", "buy", 1, thing)
        self.same(house.orders_of("ann") + house.orders_of("bob"), ())

    def test_slacks_of_just_0_and_of_minus_1(self):
        house = at_desk(cash=5)
        self.fails(NotCovered, ("ann", 1), house.order, "ann", "oil", "buy", 1, 12)
        self.fails(NotCovered, ("ann", 3), house.order, "ann", "oil", "buy", 2, 10)
        self.same(house.order("ann", "oil", "buy", 1, 11), 0)
        self.same(house.slack_of("ann"), 0)
        self.fails(NotCovered, ("ann", 4), house.order, "ann", "oil", "buy", 1, 10)
        self.same(house.order("bob", "oil", "sell", 1, 9), 1)
        self.same((house.slack_of("ann"), house.slack_of("bob")), (0, 2))

    def test_five_open_orders_and_a_sixth(self):
        house = at_desk(cash=10 ** 9)
        for number in range(5):
            self.same(house.order("ann", "oil", "buy", 1, number), number)
        self.fails(TooMany, ("ann",), house.order, "ann", "oil", "buy", 10 ** 6, 10 ** 12)
        self.fails(BadOrder, ("limit",), house.order, "ann", "oil", "buy", 1, HUGE)
        self.same(house.order("bob", "oil", "sell", 1, 4), 5)
        self.same([number for number, _ in house.orders_of("ann")], [0, 1, 2, 3])
        self.same(house.order("ann", "oil", "buy", 1, 3), 6)
        self.fails(TooMany, ("ann",), house.order, "ann", "oil", "buy", 1, 1)
        self.assertTrue(house.cancel(6) == Order("ann", "oil", "buy", 1, 3))
        self.same(house.order("ann", "oil", "buy", 1, 1), 7)

    def test_whether_the_account_was_covered_before_does_not_count(self):
        house = at_desk(cash=12)
        house.order("ann", "oil", "buy", 2, 12)
        house.order("bob", "oil", "sell", 2, 12)
        self.same((house.cash_of("ann"), house.slack_of("ann")), (-12, 0))
        house.enter("shift", (-2,))
        house.enter("bar")
        house.enter("gap")
        house.enter("till")
        self.same(house.slack_of("ann"), -4)
        self.fails(NotCovered, ("ann", 6), house.order, "ann", "oil", "sell", 2, 3)
        self.fails(NotCovered, ("ann", 4), house.order, "ann", "oil", "sell", 2, 8)
        self.fails(NotCovered, ("ann", 4), house.order, "ann", "oil", "sell", 2, 100)
        self.fails(NotCovered, ("ann", 5), house.pay_out, "ann", 1)
        house.pay_in("ann", 3)
        self.fails(NotCovered, ("ann", 1), house.order, "ann", "oil", "sell", 2, 8)
        house.pay_in("ann", 1)
        self.same((house.slack_of("ann"), house.order("ann", "oil", "sell", 2, 8)), (0, 2))

    def test_orders_are_filled_and_the_member_stays_covered(self):
        house = at_desk(cash=100, names=("ann", "bob", "cal"))
        for name, side, count, limit in (("ann", "sell", 2, 12), ("bob", "sell", 3, 11), ("ann", "buy", 1, 8)):
            house.order(name, "oil", side, count, limit)
        self.same(house.order("cal", "oil", "buy", 4, 12), 3)
        self.same(house.daybook().of("filled"), (("filled", "cal", "bob", "oil", 3, 11), ("filled", "cal", "ann", "oil", 1, 12)))
        self.same([house.cash_of(name) for name in house.member_names], [112, 133, 55])
        self.same([house.position_of(name).counts for name in house.member_names], [(-1,), (-3,), (4,)])
        self.same([number for number, _ in house.orders_of("ann")], [0, 2])
        self.same(house.orders_of("ann")[0][1].count, 1)

    def test_counts_1_and_10_to_the_6(self):
        house = at_desk(cash=10 ** 7)
        self.same(house.order("ann", "oil", "buy", 10 ** 6, 10), 0)
        self.same(house.order("bob", "oil", "sell", 10 ** 6, 10), 1)
        self.fails(BadOrder, ("count",), house.order, "bob", "oil", "sell", 10 ** 6 + 1, 10)
        self.fails(BadOrder, ("count",), house.order, "bob", "oil", "sell", 0, 10)
        self.same((house.order("bob", "oil", "sell", 1, 10), house.position_of("ann").counts), (2, (10 ** 6,)))
        self.same((house.cash_of("ann"), house.slack_of("ann")), (0, 6 * 10 ** 6))

    def test_cancelling(self):
        house = at_desk()
        house.order("ann", "oil", "buy", 1, 1)
        house.order("bob", "oil", "buy", 1, 2)
        for thing in THINGS:
            if type(thing) is not int or thing > 1 or thing < 0:
                self.fails(NoOrder, (thing,), house.cancel, thing)
        self.assertTrue(house.cancel(1) == Order("bob", "oil", "buy", 1, 2))
        self.fails(NoOrder, (1,), house.cancel, 1)
        self.same(len(house.daybook()), 2)

    def test_payments(self):
        house = at_desk(cash=0, names=("ann", "bob", "cal"))
        house.notice("cal")
        for thing in THINGS:
            for call in (house.pay_in, house.pay_out):
                self.fails(NoMember, (thing,), call, thing, thing)
                self.fails(Marked, ("cal",), call, "cal", thing)
                if not (type(thing) is int and 1 <= thing <= 10 ** 18):
                    self.fails(BadAmount, (thing,), call, "ann", thing)
        for amount in (0, -1, 10 ** 18 + 1):
            self.fails(BadAmount, (amount,), house.pay_in, "ann", amount)
            self.fails(BadAmount, (amount,), house.pay_out, "ann", amount)
        self.same((house.pay_in("ann", 10 ** 18), house.pay_in("ann", 1)), (None, None))
        self.same(house.cash_of("ann"), 10 ** 18 + 1)
        self.fails(NotCovered, ("bob", 10 ** 18), house.pay_out, "bob", 10 ** 18)
        self.same((house.pay_out("ann", 10 ** 18), house.pay_out("ann", 1)), (None, None))
        self.fails(NotCovered, ("ann", 1), house.pay_out, "ann", 1)
        self.same(house.daybook().since(3), (("paid_in", "ann", 10 ** 18), ("paid_in", "ann", 1), ("paid_out", "ann", 10 ** 18), ("paid_out", "ann", 1)))

    def test_payments_out_count_open_orders(self):
        house = at_desk(cash=9)
        house.order("ann", "oil", "buy", 1, 10)
        self.fails(NotCovered, ("ann", 1), house.pay_out, "ann", 6)
        house.pay_out("ann", 5)
        self.same(house.slack_of("ann"), 0)

    def test_parcels(self):
        parcels = Parcels(OIL, [("pack", [("oil", 2)]), ("box", [("pack", -1), ("oil", 1)])])
        house = at_desk(cash=100, names=("ann", "bob", "cal"), parcels=parcels)
        house.notice("cal")
        for thing in THINGS + ("pack", "box"):
            for call in (house.apart, house.together):
                if thing not in ("ann", "bob", "cal"):
                    self.fails(NoMember, (thing,), call, thing, thing, thing)
                self.fails(Marked, ("cal",), call, "cal", thing, thing)
                if thing not in ("pack", "box"):
                    self.fails(NoThing, (thing,), call, "ann", thing, thing)
                if thing != 1 or type(thing) is not int:
                    self.fails(NotHeld, ("pack", thing), call, "ann", "pack", thing)
        house.order("ann", "pack", "buy", 3, 20)
        house.order("bob", "pack", "sell", 3, 20)
        self.same(house.holdings_of("ann"), (("pack", 3),))
        self.same(house.apart("ann", "pack", 2), None)
        self.same(house.holdings_of("ann"), (("oil", 4), ("pack", 1)))
        self.fails(NotHeld, ("pack", 2), house.apart, "ann", "pack", 2)
        self.same(house.together("ann", "pack", 1), None)
        self.same((house.holdings_of("ann"), house.position_of("ann").counts), ((("oil", 2), ("pack", 2)), (6,)))
        self.fails(NotHeld, ("box", 1), house.together, "ann", "box", 1)
        self.same([row[0] for row in house.daybook().since(3)], ["filled"])


class TestFreeTrades(Promises):
    def test_errors_in_their_order(self):
        house = at_free()
        for thing in THINGS:
            self.fails(NoMember, (thing,), house.trade, thing, thing, thing, thing)
            self.fails(NoMember, (thing,), house.trade, "ann", thing, thing, thing)
            self.fails(OwnTrade, ("ann",), house.trade, "ann", "ann", thing, thing)
            if thing != "oil":
                self.fails(NoThing, (thing,), house.trade, "ann", "bob", thing, thing)
            if not (type(thing) is int and 1 <= thing <= 10 ** 6):
                self.fails(BadAmount, (thing,), house.trade, "ann", "bob", "oil", thing)
        house.notice("bob")
        for thing in THINGS:
            self.fails(OwnTrade, ("bob",), house.trade, "bob", "bob", thing, thing)
            self.fails(Marked, ("bob",), house.trade, "bob", "ann", thing, thing)
            self.fails(Marked, ("bob",), house.trade, "ann", "bob", thing, thing)
        house.notice("ann")
        self.fails(Marked, ("ann",), house.trade, "ann", "bob", "oil", 0)

    def test_counts_and_prices(self):
        """Nobody is looked at; the price is the told worth, also where it is below 0."""
        house = at_free(cash=0, parcels=Parcels(OIL, [("owed", [("oil", -3)])]))
        self.same(house.trade("ann", "bob", "oil", 10 ** 6), None)
        self.same(house.trade("bob", "ann", "oil", 1), None)
        self.same(house.trade("ann", "bob", "owed", 2), None)
        self.fails(BadAmount, (10 ** 6 + 1,), house.trade, "ann", "bob", "oil", 10 ** 6 + 1)
        self.same(house.daybook().since(1), (
            ("traded", "ann", "bob", "oil", 10 ** 6, 10), ("traded", "bob", "ann", "oil", 1, 10), ("traded", "ann", "bob", "owed", 2, -30)))
        self.same((house.cash_of("ann"), house.cash_of("bob")), (-10 ** 7 + 70, 10 ** 7 - 70))
        self.same(house.holdings_of("bob"), (("oil", 1 - 10 ** 6), ("owed", -2)))

    def test_told_prices_count(self):
        plan = chain_plan(("move", "deep"), ("free",), ("tell",), ("free",))
        house = House(plan, (10,), BOTH)
        house.enter("na", (3,))
        house.enter("nb")
        house.trade("ann", "bob", "oil", 1)
        house.enter("nc")
        house.enter("nd")
        house.trade("ann", "bob", "oil", 1)
        self.same([row[5] for row in house.daybook().of("traded")], [10, 13])


class TestMarks(Promises):
    def test_notice_at_the_start_and_of_marked_members(self):
        house = House(example_plan(), (10,), BOTH)
        for thing in THINGS:
            self.fails(NoMember, (thing,), house.notice, thing)
        self.same((house.notice("ann"), house.notice("ann"), house.is_marked("ann")), (True, False, True))
        self.same(tuple(house.daybook()), (("marked", "ann", "notice"),))
        house.enter("gap")
        house.enter("till")
        for call, told in ((house.order, ("oil", "buy", 1, 1)), (house.pay_in, (1,)), (house.pay_out, (1,)), (house.apart, ("oil", 1)),
                           (house.together, ("oil", 1))):
            self.fails(Marked, ("ann",), call, "ann", *told)

    def test_orders_are_cancelled(self):
        house = at_desk(cash=100)
        for limit in (1, 2, 3):
            house.order("ann", "oil", "buy", 1, limit)
        house.order("bob", "oil", "buy", 1, 1)
        self.same(house.notice("ann"), True)
        self.same((house.orders_of("ann"), [number for number, _ in house.orders_of("bob")]), ((), [3]))
        self.fails(NoOrder, (0,), house.cancel, 0)
        self.same(house.order("bob", "oil", "sell", 1, 1), 4)
        self.same(house.daybook().of("filled"), ())


class TestDeeds(Promises):
    def test_wrong_deeds(self):
        house = at_desk()
        before = told_state(house)
        for thing in THINGS + (
                ["enter"], ("enter", "shift"), ("enter", "shift", (0,), 1), ("play", "ann"), ("do", ("notice", "ann")), ["trial"],
                ("order", "ann", "oil", "buy", 1), ("cancel",), ("notice",), ("notice", "ann", "bob"), ("trade", "ann", "bob", "oil"),
                ("pay_in", "ann"), ("apart", "ann", "oil"), (("notice",), "ann"), "notice", (["notice", "ann"],), ("daybook",)):
            self.fails(BadDeed, (thing,), house.do, thing)
        self.same(told_state(house), before)

    def test_what_deeds_return(self):
        parcels = Parcels(OIL, [("pack", [("oil", 2)])])
        house = at_desk(cash=100, parcels=parcels)
        for deed, expected in (
                (("order", "ann", "oil", "buy", 4, 10), 0), (["order", "bob", "oil", "sell", 2, 10], 1), (("pay_in", "ann", 3), None),
                (("pay_out", "ann", 2), None), (["together", "ann", "pack", 1], None), (("apart", "ann", "pack", 1), None),
                (("notice", "bob"), True), (("notice", "bob"), False), (["enter", "shift", [1]], None), (("enter", "bar", None), None)):
            if deed[0] == "enter" and deed[1] == "shift":
                self.assertTrue(house.do(("cancel", 0)) == Order("ann", "oil", "buy", 2, 10))
            self.same(house.do(deed), expected)
        self.fails(NotNow, ("trade",), house.do, ("trade", None, None, None, None))
        house = at_free()
        self.same(house.do(["trade", "ann", "bob", "oil", 1]), None)


class TestWhatAHouseShows(Promises):
    def test_unknown_members(self):
        house = at_desk()
        for thing in THINGS + ("cal", "firm"):
            for call in (house.group_of, house.cash_of, house.position_of, house.holdings_of, house.orders_of, house.is_marked,
                         house.account_of, house.slack_of):
                self.fails(NoMember, (thing,), call, thing)

    def test_accounts(self):
        house = at_desk(cash=50, parcels=Parcels(OIL, [("pack", [("oil", 2)])]))
        house.order("ann", "pack", "buy", 3, 20)
        house.order("bob", "pack", "sell", 1, 20)
        house.order("ann", "oil", "sell", 1, 11)
        account = house.account_of("ann")
        self.same((type(account), account.cash, account.position.counts), (Account, 30, (2,)))
        self.assertTrue(account.orders == tuple(order for _, order in house.orders_of("ann")) and account.parcels == house.parcels)
        self.same([(order.thing, order.count) for order in account.orders], [("pack", 2), ("oil", 1)])
        self.same(house.slack_of("ann"), worst_fill(account, (10,), dict(TABLES)["deep"]).slack)

    def test_day_books_do_not_change_later(self):
        house = at_desk()
        book = house.daybook()
        self.same((type(book), len(book)), (DayBook, 2))
        house.pay_in("ann", 1)
        self.same((len(book), len(house.daybook())), (2, 3))
        self.assertTrue(house.daybook() == DayBook([["entered", "gap"], ("entered", "till"), ("paid_in", "ann", 1)]))
        self.same(house.daybook().cash_change("ann"), 1)

    def test_houses_have_nothing_in_common(self):
        one, other = at_desk(), at_desk()
        before = told_state(other)
        one.order("ann", "oil", "buy", 1, 1)
        one.enter("shift", (1,))
        self.same(told_state(other), before)

    def test_great_numbers(self):
        """Prices and cash go beyond the bounds of what may be passed in."""
        great = 10 ** 30
        table = Table.full(OIL, great, cap=great)
        nodes = [("na", ("free",), [("nb", None)]), ("nb", ("move", "far"), [("nb", None), ("nc", None)]), ("nc", ("tell",), [("nd", None)]),
                 ("nd", ("close",), [("na", None)])]
        house = House(Plan(OIL, [("far", table)], [("firm", "far")], nodes), (10 ** 12,), [("ann", "firm", 10 ** 18), ("bob", "firm", 0)])
        house.enter("na")
        house.trade("ann", "bob", "oil", 1)
        house.enter("nb", (-great,))
        house.enter("nb", (-great,))
        house.enter("nc")
        self.same(house.slack_of("ann"), 10 ** 18 - 10 ** 12 + house.true_prices[0] - great)
        house.notice("ann")
        house.enter("nd")
        self.same(house.paid_total, 2 * great - 10 ** 18)


class TestTrials(Promises):
    def test_a_trial_begins_with_its_block(self):
        house = at_desk(cash=100)
        late = house.trial()
        house.order("ann", "oil", "buy", 1, 1)
        before = told_state(house)
        with late as held:
            self.assertIs(held, house)
            kept = (held.order("bob", "oil", "sell", 1, 1), held.daybook(), held.account_of("ann"), held.position_of("ann"), held.orders_of("ann"))
            held.enter("shift", (2,))
        self.same(told_state(house), before)
        self.same((kept[0], len(kept[1]), kept[2].cash, kept[3].counts, kept[4]), (1, 3, 99, (1,), ()))
        self.same(house.order("bob", "oil", "buy", 1, 0), 1)

    def test_errors_go_out(self):
        house = at_desk()
        before = told_state(house)
        for fault in (KeyError, NoMember, ZeroDivisionError):
            with self.assertRaises(fault):
                with house.trial():
                    house.notice("ann")
                    house.enter("shift", (1,))
                    house.cash_of("cal") if fault is NoMember else {}["x"] if fault is KeyError else 1 // 0
            self.same(told_state(house), before)

    def test_trials_within_trials(self):
        house = at_desk(cash=100)
        states = []
        with house.trial():
            house.order("ann", "oil", "buy", 1, 10)
            states.append(told_state(house))
            for _ in range(3):
                with house.trial(), house.trial():
                    house.order("bob", "oil", "sell", 1, 10)
                    house.pay_in("ann", 5)
                    with self.assertRaises(TooMany):
                        with house.trial():
                            for limit in range(6):
                                house.order("bob", "oil", "buy", 1, limit)
                    states.append(told_state(house))
                self.same(told_state(house), states[0])
            house.notice("bob")
            house.enter("shift", (0,))
        self.same(states[1], states[3])
        self.same(told_state(house), told_state(at_desk(cash=100)))

    def test_trials_one_behind_the_other(self):
        house = at_desk()
        for number in range(50):
            with house.trial():
                house.pay_in("ann", number + 1)
            house.pay_in("ann", 1)
        self.same((house.cash_of("ann"), len(house.daybook())), (59, 52))


if __name__ == "__main__":
    unittest.main()
