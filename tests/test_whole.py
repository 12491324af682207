"""The general rules over the whole program: results are taken back ([0.4]), what is passed in stays as it was ([0.3]),
and no answer depends on what was asked before ([0.7])."""

import random
import unittest

from coveredday.account import Account
from coveredday.accountjudge import certificate, covered_fault, lacking_fault
from coveredday.alike import alike
from coveredday.calls import call
from coveredday.changes import alone, changed, shorter
from coveredday.cover import cover, cover_amount, worst_moves
from coveredday.coverjudge import cover_fault, move_fault
from coveredday.daymaker import day_of
from coveredday.fills import least_cancels, worst_fill
from coveredday.house import House
from coveredday.least import is_enough, least_table, reason, spare
from coveredday.longest import longest
from coveredday.moves import extreme_move, fits
from coveredday.needdays import day_of_need
from coveredday.needs import need, pays_at_most
from coveredday.orders import Order
from coveredday.parcels import Parcels
from coveredday.plan import Plan
from coveredday.plantext import plan_text, read_plan
from coveredday.play import play
from coveredday.position import Position
from coveredday.repairs import least_kept, least_repairs
from coveredday.sights import Outlook
from coveredday.tables import Table
from coveredday.tablesums import total
from coveredday.tabletext import read_table, table_lines, table_text
from coveredday.verdict import verdict
from coveredday.verdictjudge import breach_fault, safe_fault
from coveredday.views import known
from coveredday.walks import reachable, shortest_walk, walk_table
from coveredday.windows import window_fault, window_table, windows
from tests.common import Promises, all_pairs
from tests.houses import told_state
from tests.plans import OIL, busy_plan, example_plan, forward_plan

FAR = 10 ** 12


def plain(thing):
    """Any value as plain values: objects by their attributes."""
    if isinstance(thing, (list, tuple)):
        return [type(thing).__name__] + [plain(part) for part in thing]
    if isinstance(thing, dict):
        return {key: plain(part) for key, part in thing.items()}
    return [type(thing).__name__, plain(vars(thing))] if hasattr(thing, "__dict__") else thing


def questions(plan, positions, account, changes):
    """Questions about one plan, as functions without arguments; they share what they pass."""
    group = plan.group_names[0]
    up, down = all_pairs(plan.goods)[0]
    outlook, prices = Outlook(plan, group), [0] * len(plan.goods)
    one, other = positions
    tables = [table for _, table in plan.tables]
    return [
        lambda: verdict(plan), lambda: least_table(plan, group), lambda: spare(plan, group), lambda: shorter(plan),
        lambda: alone(plan, group), lambda: need(plan, group, one), lambda: pays_at_most(plan, group, other, end="free"),
        lambda: longest(plan, group, "stand", up, down), lambda: list(windows(plan, group, 3)), lambda: reachable(plan),
        lambda: plan_text(plan), lambda: table_lines(tables[0]), lambda: cover(one, tables[0]), lambda: worst_moves(other, *tables),
        lambda: total(plan.goods, *tables), lambda: tables[0] & tables[1], lambda: tables[0] | tables[1], lambda: tables[0] + tables[2],
        lambda: outlook.loss(one), lambda: outlook.worst_walk(other), lambda: outlook.bounds(prices, up, down),
        lambda: call(outlook, account, prices), lambda: certificate(account, prices, tables[0]), lambda: least_cancels(account, prices, tables[0]),
        lambda: changed(plan, changes), lambda: least_repairs(plan, changes).harms, lambda: least_kept(plan, changes_names(plan)),
        lambda: alike(plan, plan).least, lambda: known(plan, prices, ()).equities(3, one), lambda: one + other, lambda: -one,
        lambda: told_state(House(plan, prices, [("ann", group, 5)])), lambda: account.filled([0] * len(account.orders)),
    ]


def changes_names(plan):
    return [node for node in plan if plan.kind(node) in ("tell", "look")][:3]


class TestNoAnswerDependsOnWhatWasAskedBefore(Promises):
    def test_questions_in_any_order(self):
        chance = random.Random(231)
        for number in range(25):
            seed = chance.random()
            answers = []
            for turn in range(3):
                plan = (busy_plan, forward_plan)[number % 2](random.Random(seed), 6)
                goods = plan.goods
                positions = [Position(goods, [2] * len(goods)), Position(goods, [-1] + [3] * (len(goods) - 1))]
                orders = [Order("ann", goods[0], "buy", 2, 1), Order("ann", goods[-1], "sell", 1, 0)]
                account = Account(3, positions[0], orders, parcels=Parcels(goods))
                changes = [["row", plan.table_names[0], goods[0], "cash", 1], ["cover", plan.group_names[0], plan.table_names[1]]]
                asked = list(enumerate(questions(plan, positions, account, changes)))
                before = repr(plain([plan, positions, account, changes]))
                if turn:
                    asked = asked * 2
                    random.Random(seed + turn).shuffle(asked)
                told = {}
                for index, question in asked:
                    answer = repr(plain(question()))
                    self.assertEqual(told.setdefault(index, answer), answer)
                answers.append(told)
                self.assertEqual(repr(plain([plan, positions, account, changes])), before)
            self.assertTrue(answers[0] == answers[1] == answers[2])


class TestResultsAreTakenBack(Promises):
    def test_tables_of_the_program(self):
        """Tables with entries beyond 10 ** 12 are used in plans, texts, covers and houses."""
        far = Table.full(OIL, FAR)
        great = far + far + far
        nodes = [("na", ("desk",), [("nb", None)]), ("nb", ("move", "great"), [("nc", None)]), ("nc", ("close",), [("na", None)])]
        plan = Plan(OIL, [("great", great), ("less", great.lowered("cash", "oil"))], [("firm", "less")], nodes)
        breach = verdict(plan)
        self.same((breach.excess, breach_fault(plan, breach)), (1, None))
        self.same(play(plan, day_of(plan, breach)).paid_total, breach.excess)
        self.assertTrue(read_plan(plan_text(plan)) == plan and read_table(table_text(great)) == great)
        self.assertTrue(changed(plan, [("row", "less", "cash", "oil", 1)]).table_named("less")["oil", "cash"] == 3 * FAR)
        position = Position(OIL, (-7,))
        self.same((cover_amount(position, great), cover_fault(position, great, cover(position, great))), (21 * FAR, None))
        house = House(plan, (FAR,), [("ann", "firm", 10 ** 18)])
        for node, move in (("na", None), ("nb", extreme_move(great, "oil", "cash")), ("nc", None), ("na", None), ("nb", worst_moves(position, great)[0])):
            house.enter(node, move)
        self.same(house.true_prices, (7 * FAR,))
        self.same(known(plan, house.true_prices, ("na", "nb")).bounds("oil", "cash"), (4 * FAR, 10 * FAR))

    def test_least_tables_as_cover_tables(self):
        chance = random.Random(232)
        safe = 0
        for _ in range(60):
            plan = forward_plan(chance, 7)
            for group in plan.group_names:
                least = least_table(plan, group)
                if least is not None:
                    found = alone(plan, group, least)
                    self.same((verdict(found).is_safe, is_enough(plan, group, least)), (True, True))
                    self.same(safe_fault(found, verdict(found).papers), None)
                    self.same({number for _, _, number in spare(found, group)}, {0})
                    safe += 1
        self.assertGreater(safe, 20)

    def test_what_houses_show(self):
        """Positions, accounts and prices of a house go into views, needs, calls and new accounts."""
        house = House(example_plan(), (5,), [("ann", "firm", 50), ("bob", "firm", 50)])
        for node in ("gap", "till"):
            house.enter(node)
        house.order("ann", "oil", "buy", 3, 6)
        house.order("bob", "oil", "sell", 2, 5)
        account, position = house.account_of("ann"), house.position_of("ann")
        self.same(worst_fill(account, house.told_prices, house.plan.cover_table("firm")).slack, house.slack_of("ann"))
        again = Account(account.cash, position, account.orders, parcels=house.parcels)
        self.same(plain(again), plain(account))
        self.same(known(house.plan, house.told_prices, ("till", "shift"), "gap").equities(account.cash, position), (44, 52))
        outlook = Outlook(house.plan, "firm", ("tell", "desk"))
        self.same((outlook.loss(position), call(outlook, account, house.told_prices).slack), (4, None))
        self.same(need(house.plan, "firm", house.street_position).amount, 0)
        self.same(covered_fault(account, house.told_prices, house.plan.cover_table("firm"),
                                certificate(account, house.told_prices, house.plan.cover_table("firm"))), None)
        lacking = certificate(Account(0, position, parcels=house.parcels), (-1,), house.plan.cover_table("firm"))
        self.same(lacking_fault(Account(0, position, parcels=house.parcels), (-1,), house.plan.cover_table("firm"), lacking), None)

    def test_walks_and_windows_of_the_program(self):
        chance = random.Random(233)
        for number in range(60):
            plan = busy_plan(chance, 7) if number % 2 else forward_plan(chance, 7)
            for node in reachable(plan):
                walk_table(plan, shortest_walk(plan, node, holding=False))
            for group in plan.group_names:
                position = Position(plan.goods, [2] * len(plan.goods))
                told = need(plan, group, position)
                if told.opening is not None and not told.is_endless:
                    self.same(play(plan, day_of_need(plan, told, 2)).paid_total, pays_at_most(plan, group, position))
                for up, down in all_pairs(plan.goods):
                    if longest(plan, group, "stand", up, down) is not None:
                        window = reason(plan, group, "stand", up, down)
                        if window is not None:
                            self.same(window_fault(plan, window), None)
                            table = window_table(plan, window)
                            move = extreme_move(table, up, down)
                            self.assertTrue(fits(move, table) and move_fault(table, move) is None)


if __name__ == "__main__":
    unittest.main()
