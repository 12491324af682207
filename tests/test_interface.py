"""The interface of the document: names, arguments and where they are defined."""

import importlib
import inspect
import unittest

# For each module: functions with their arguments, and classes with their own methods and properties.
FUNCTIONS = {
    "names": ["is_whole(thing, low, high)", "is_name(thing)", "checked_goods(goods)", "assets(goods)"],
    "orders": ["meets(one, other)"],
    "closure": ["closed_sums(assets, rows)"],
    "moves": [
        "still(goods)", "check_move(goods, move)", "parting(goods, move, up, down)", "fits(move, table)",
        "first_broken(move, table)", "extreme_move(table, up, down)"],
    "tablesums": [
        "total(goods, *tables)", "all_at_once(table, *others)", "greatest(table, *others)",
        "extreme_moves(up, down, *tables)"],
    "pairing": ["pairing(position, table)", "cost_of(pairs, table)"],
    "worstmove": ["worst_move(position, table)"],
    "cover": [
        "cover(position, table)", "cover_amount(position, table)", "cover_over(position, *tables)",
        "worst_moves(position, *tables)"],
    "coverjudge": ["pairs_fault(position, pairs)", "move_fault(table, move)", "cover_fault(position, table, told)"],
    "fills": [
        "equity(cash, position, prices)", "slack(cash, position, prices, table)", "worst_fill(account, prices, table)",
        "is_covered(account, prices, table)", "least_cancels(account, prices, table)"],
    "accountjudge": [
        "certificate(account, prices, table)", "covered_fault(account, prices, table, covered)",
        "lacking_fault(account, prices, table, lacking)"],
    "room": ["room(account, order, prices, table)"],
    "walks": [
        "walk_fault(plan, walk, behind=None)", "walk_table(plan, walk, behind=None)", "reachable(plan)",
        "shortest_walk(plan, node, *, holding)"],
    "phases": [
        "next_phases(plan, group, node, phase)", "ends(plan, node, phase)", "openings(plan, group)",
        "states(plan, group)", "steps(plan, group, state)"],
    "windows": ["windows(plan, group, length)", "window_fault(plan, window)", "window_table(plan, window)"],
    "longest": ["longest(plan, group, end, up, down)", "potentials(plan, group, end, up, down)"],
    "verdict": ["verdict(plan)"],
    "verdictjudge": ["safe_fault(plan, papers)", "breach_fault(plan, breach)"],
    "daymaker": ["day_of(plan, breach)"],
    "closing": ["close_out(cash, position, prices)"],
    "play": ["tried(house, deeds)", "play(plan, day, *, parcels=None)"],
    "views": ["known(plan, told, walk, behind=None)"],
    "sights": ["sight(plan, group, node)", "sights(plan, group, walk)"],
    "calls": ["call(outlook, account, told)"],
    "needs": ["need(plan, group, position, *, end='stand')", "pays_at_most(plan, group, position, *, end='stand')"],
    "needdays": ["day_of_need(plan, told, turns=0)"],
    "least": [
        "least_table(plan, group)", "is_enough(plan, group, table)", "spare(plan, group)",
        "reason(plan, group, end, up, down)"],
    "changes": ["changed(plan, changes)", "alone(plan, group, table=None)", "shorter(plan)"],
    "repairs": ["least_repairs(plan, pool)", "least_kept(plan, names)"],
    "alike": ["alike(one, other)"],
    "tabletext": ["table_text(table)", "read_table(text)", "table_lines(table)"],
    "plantext": ["plan_text(plan)", "read_plan(text)"],
}
CLASSES = {
    "orders Order(member, thing, side, count, limit)": ["sign", "of_count(self, count)", "__eq__(self, other)"],
    "orderbook OrderBook()": [
        "place(self, order)", "would_fill(self, order)", "order(self, number)", "cancel(self, number)",
        "cancel_all(self, member)", "open_of(self, member)", "best(self, thing, side)", "levels(self, thing, side)",
        "copied(self)", "__iter__(self)", "__len__(self)"],
    "position Position(goods, counts)": [
        "flat(goods)", "single(goods, good, count=1)", "__getitem__(self, at)", "__add__(self, other)",
        "__sub__(self, other)", "__neg__(self)", "__mul__(self, other)", "__iter__(self)", "is_flat",
        "worth(self, prices)", "loss(self, move)", "__eq__(self, other)"],
    "parcels Parcels(goods, rows=())": [
        "things", "contents(self, parcel)", "apart(self, thing, count=1)", "worth(self, thing, prices)",
        "__eq__(self, other)"],
    "holdings Holdings(parcels)": [
        "put(self, thing, count)", "count_of(self, thing)", "take_apart(self, parcel, count)",
        "put_together(self, parcel, count)", "greatest_apart(self, parcel)", "greatest_together(self, parcel)",
        "all_apart(self)", "position_now(self)", "clear(self)", "copied(self)", "__iter__(self)"],
    "tables Table(goods, rows, *, cap=1000000000000)": [
        "entries", "full(goods, most, *, cap=1000000000000)", "__getitem__(self, at)", "__iter__(self)",
        "__eq__(self, other)", "__add__(self, other)", "__and__(self, other)", "__or__(self, other)",
        "chain(self, up, down)", "within(self, other)", "first_above(self, other)", "lowered(self, up, down, by=1)"],
    "cover Cover(amount, pairs, move)": [],
    "account Account(cash, position, orders=(), *, parcels)": [
        "with_order(self, order)", "without(self, indices)", "filled(self, taken)", "after(self, taken)",
        "corners(self)"],
    "fills WorstFill(least, taken, found)": [],
    "accountjudge Covered(pairings)": ["is_covered"],
    "accountjudge Lacking(taken, move)": ["is_covered"],
    "plan Plan(goods, tables, groups, nodes)": [
        "kind(self, node)", "step(self, node)", "looks_at(self, node, group)", "followers(self, node)",
        "edge_table(self, one, other)", "table_named(self, name)", "cover_table(self, group)", "__iter__(self)",
        "__eq__(self, other)"],
    "phases Step(node, state, table, end)": ["__eq__(self, other)"],
    "windows Window(group, opening, walk, end)": ["__eq__(self, other)"],
    "breach Breach(group, end, up, down, *, opening, lead, first, ring, tail, turns, phase, excess)": [
        "walk_length", "is_safe", "__eq__(self, other)"],
    "breach Day(prices, members, deeds)": ["__eq__(self, other)"],
    "safe Safe(papers)": ["potential(self, group, end, up, down)", "is_safe"],
    "daybook DayBook(happenings)": [
        "of(self, word)", "since(self, count)", "cash_change(self, member)", "__iter__(self)", "__len__(self)",
        "__eq__(self, other)"],
}
CLASSES.update({
    "closing Closing(worth, before, paid, cash)": ["__eq__(self, other)"],
    "house House(plan, prices, members, *, parcels=None)": [
        "place_now", "true_prices", "told_prices", "paid_total", "street_cash", "street_position", "member_names",
        "enter(self, node, move=None)", "order(self, member, thing, side, count, limit)", "cancel(self, number)",
        "pay_in(self, member, amount)", "pay_out(self, member, amount)", "apart(self, member, parcel, count)",
        "together(self, member, parcel, count)", "trade(self, buyer, seller, thing, count)", "notice(self, member)",
        "do(self, deed)", "group_of(self, member)", "cash_of(self, member)", "position_of(self, member)",
        "holdings_of(self, member)", "orders_of(self, member)", "is_marked(self, member)", "account_of(self, member)",
        "slack_of(self, member)", "daybook(self)", "trial(self)"],
    "views View(plan, told, walk, behind)": [
        "bounds(self, up, down)", "loss(self, position)", "equities(self, cash, position)",
        "worst_moves(self, position)"],
    "longwalk LongWalk(amount, behind, first, ring=(), tail=())": ["gone(self, turns=0)", "is_endless"],
    "sights Outlook(plan, group, seen=())": [
        "seen", "places", "coming", "see(self, word)", "loss(self, position)", "bounds(self, told, up, down)",
        "worst_walk(self, position)"],
    "calls Call(amount, *, slack, taken, behind, first, ring=(), tail=())": [],
    "needs Need(amount, *, group, position, end, opening, first, ring=(), tail=())": [],
    "repairs Repairs(plan, pool, plans, papers)": [
        "fate(self, choice)", "paper(self, choice)", "plan_of(self, choice)", "__iter__(self)", "__len__(self)",
        "__contains__(self, x)"],
    "alike Alike(least)": ["is_alike"],
    "alike Unlike(group, cover, safe, pair, plan, breach)": ["is_alike", "day(self)"],
})
GENERATORS = ("windows windows", "account Account.corners")


class TestInterface(unittest.TestCase):
    def test_functions(self):
        for place, functions in FUNCTIONS.items():
            module = importlib.import_module("coveredday." + place)
            for told in functions:
                name = told.split("(")[0]
                function = vars(module)[name]
                self.assertEqual(name + str(inspect.signature(function)), told)
                self.assertEqual(function.__module__, module.__name__)

    def test_classes_and_their_own_methods(self):
        for heading, members in CLASSES.items():
            place, told = heading.split(" ", 1)
            module = importlib.import_module("coveredday." + place)
            kind = vars(module)[told.split("(")[0]]
            self.assertEqual(kind.__name__ + str(inspect.signature(kind)), told)
            self.assertEqual(kind.__module__, module.__name__)
            for member in members:
                self.assertEqual(self.shape(kind, member.split("(")[0]), member)

    def test_generators(self):
        for told in GENERATORS:
            place, name = told.split(" ")
            found = importlib.import_module("coveredday." + place)
            for part in name.split("."):
                found = vars(found)[part]
            self.assertTrue(inspect.isgeneratorfunction(found), told)

    def shape(self, kind, name):
        """How the member that the class itself defines is called: a property by its name alone."""
        own = vars(kind)[name]
        if isinstance(own, property):
            return name
        called = getattr(kind, name) if isinstance(own, classmethod) else own
        return name + str(inspect.signature(called))

    def test_operators_that_are_not_told_are_missing(self):
        from coveredday.position import Position
        one = Position(("oil",), (3,))
        for call in (lambda: 2 * one, lambda: one * True, lambda: one * one, lambda: one / 1, lambda: len(one)):
            with self.assertRaises(TypeError):
                call()


if __name__ == "__main__":
    unittest.main()
