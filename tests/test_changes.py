"""[10.5] to [10.9], what [10.12] tells of changes, and the interface of coveredday.changes."""

import random
import unittest

from coveredday.changes import alone, changed, shorter
from coveredday.errors import BadChange, CannotBe, MarketError, NoGroup, OtherGoods, TooManyTables
from coveredday.least import least_table
from coveredday.longest import longest
from coveredday.plan import Plan
from coveredday.tables import Table
from coveredday.verdict import verdict
from tests.common import THINGS, Promises, all_pairs
from tests.plans import DAY, DEEP_TABLE, GROUPS, OIL, TABLES, busy_plan, chain_plan, example_plan, forward_plan, random_plan
from tests.test_phases import TWO_GROUPS

GREAT = 10 ** 30
ENDS = ("stand", "free")
STEPS = (("move", "day"), ("tell",), ("desk",), ("free",), ("look", ("firm",)), ("close",), ("rest",))


def parts(plan):
    """All that a plan is made of, as plain values; tables by their rows."""
    return plan.goods, tuple((name, table.rows) for name, table in plan.tables), plan.groups, plan.nodes


def told_change(goods, tables, groups, nodes, change):
    """The parts of the plan behind a change, by the words of [10.5]; None if it names what is not there."""
    word, *rest = change
    tables, groups, nodes = [list(row) for row in tables], [list(row) for row in groups], [list(row) for row in nodes]
    by_name = {row[0]: row for row in nodes}
    if word in ("put", "cut", "calm"):
        one, other = rest[0], rest[1]
        if one not in by_name or other not in [row[0] for row in by_name[one][2]]:
            return None
        row = by_name[one]
        if word == "put":
            row[2] = tuple((rest[2], calm) if node == other else (node, calm) for node, calm in row[2])
            nodes.append([rest[2], rest[3], ((other, None),)])
        elif word == "cut":
            row[2] = tuple(follower for follower in row[2] if follower[0] != other)
        else:
            row[2] = tuple((node, rest[2]) if node == other else (node, calm) for node, calm in row[2])
    elif word == "step":
        if rest[0] not in by_name:
            return None
        by_name[rest[0]][1] = rest[1]
    elif word == "cover":
        if rest[0] not in [row[0] for row in groups]:
            return None
        for row in groups:
            row[1] = rest[1] if row[0] == rest[0] else row[1]
    else:
        name, up, down, most = rest
        if name not in [row[0] for row in tables]:
            return None
        for row in tables:
            if row[0] == name:
                old = list(row[1])
                at = [at for at, one in enumerate(old) if one[:2] == (up, down)]
                old[at[0] if at else len(old):at[0] + 1 if at else len(old)] = [(up, down, most)]
                row[1] = tuple(old)
    return goods, tables, groups, nodes


def told_plan(plan, change):
    """The plan behind one change, or None if it cannot be."""
    found = told_change(*parts(plan), change)
    if found is None:
        return None
    goods, tables, groups, nodes = found
    try:
        return Plan(goods, [(name, Table(goods, rows, cap=10 ** 40)) for name, rows in tables], groups, nodes)
    except MarketError:
        return None


def random_change(chance, plan):
    """A change of the right shape, of things that mostly are in the plan."""
    def pick(names):
        return chance.choice(tuple(names) * 4 + ("zz",))

    one = chance.choice(plan.node_names)
    other = chance.choice([node for node, _ in plan.followers(one)])
    one, other = (one, other) if chance.random() < 0.85 else (pick(plan.node_names), pick(plan.node_names))
    step = chance.choice((("move", pick(plan.table_names)), ("tell",), ("desk",), ("free",), ("close",), ("rest",),
                          ("look", tuple(pick(plan.group_names) for _ in range(chance.randint(1, 2))))))
    assets = ("cash",) + plan.goods
    word = chance.choice(("put", "step", "row", "cover", "cut", "calm"))
    return {
        "put": ("put", one, other, chance.choice(("new", "other", "third") + plan.node_names[:1]), step),
        "step": ("step", pick(plan.node_names), step),
        "row": ("row", pick(plan.table_names), pick(assets), pick(assets), chance.choice((0, 1, 5, 10 ** 12))),
        "cover": ("cover", pick(plan.group_names), pick(plan.table_names)),
        "cut": ("cut", one, other),
        "calm": ("calm", one, other, chance.choice((None, pick(plan.table_names)))),
    }[word]


def listed(thing):
    return [listed(part) for part in thing] if isinstance(thing, tuple) else thing


class TestChanged(Promises):
    def test_random_changes(self):
        chance = random.Random(181)
        done = refused = 0
        for _ in range(300):
            plan = random_plan(chance, 7)
            before = parts(plan)
            changes = [random_change(chance, plan) for _ in range(chance.randint(0, 4))]
            expected, wrong = plan, None
            for index, change in enumerate(changes):
                expected = told_plan(expected, change)
                if expected is None:
                    wrong = index
                    break
            passed = chance.choice((tuple(changes), changes, [listed(change) for change in changes]))
            if wrong is None:
                self.same(parts(changed(plan, passed)), parts(expected))
                self.assertTrue(changed(plan, passed) == expected)
                done += 1
            else:
                self.fails(CannotBe, (wrong,), changed, plan, passed)
                refused += 1
            self.same(parts(plan), before)
        self.assertGreater(min(done, refused), 60)

    def test_each_change(self):
        plan = chain_plan(("tell",), ("move", "day"), ("close",), back="na")
        table = Table(OIL, [("oil", "cash", 3), ("cash", "oil", 2)])
        plan = Plan(OIL, TABLES + (("odd", table),), GROUPS, plan.nodes[:1] + (("nb", ("move", "day"), [("nb", "deep"), ("nc", "day")]),) + plan.nodes[2:])
        for change, index, expected in (
                (("put", "nb", "nc", "nd", ("tell",)), 3, [
                    ("na", ("tell",), (("nb", None),)), ("nb", ("move", "day"), (("nb", "deep"), ("nd", "day"))),
                    ("nc", ("close",), (("na", None),)), ("nd", ("tell",), (("nc", None),))]),
                (["put", "nb", "nb", "x", ["look", ["firm"]]], 3, [
                    ("na", ("tell",), (("nb", None),)), ("nb", ("move", "day"), (("x", "deep"), ("nc", "day"))),
                    ("nc", ("close",), (("na", None),)), ("x", ("look", ("firm",)), (("nb", None),))]),
                (("step", "na", ["look", ["firm"]]), 3, [("na", ("look", ("firm",)), (("nb", None),))] + list(plan.nodes[1:])),
                (("cut", "nb", "nb"), 3, [plan.nodes[0], ("nb", ("move", "day"), (("nc", "day"),)), plan.nodes[2]]),
                (("calm", "nb", "nc", None), 3, [plan.nodes[0], ("nb", ("move", "day"), (("nb", "deep"), ("nc", None))), plan.nodes[2]]),
                (("calm", "nb", "nb", "odd"), 3, [plan.nodes[0], ("nb", ("move", "day"), (("nb", "odd"), ("nc", "day"))), plan.nodes[2]]),
                (("calm", "na", "nb", None), 3, list(plan.nodes)),
                (("cover", "firm", "odd"), 2, [("firm", "odd")]),
                (("row", "odd", "cash", "oil", 0), 1, [("oil", "cash", 3), ("cash", "oil", 0)]),
                (["row", "odd", "oil", "cash", 10 ** 12], 1, [("oil", "cash", 10 ** 12), ("cash", "oil", 2)])):
            found = changed(plan, [change])
            part = dict((name, one.rows) for name, one in found.tables)["odd"] if index == 1 else parts(found)[index]
            self.same(part, tuple(expected))
            rest = [one for at, one in enumerate(parts(found)) if at != index]
            self.same(rest, [one for at, one in enumerate(parts(plan)) if at != index])

    def test_rows_of_great_tables(self):
        goods = ("oil", "rye")
        table = Table(goods, [("oil", "cash", GREAT), ("cash", "oil", 5), ("rye", "oil", 3), ("oil", "rye", 2)], cap=GREAT)
        plan = Plan(goods, [("far", table)], [("firm", "far")], [("na", ("rest",), [("na", None)])])
        for row, at in ((("rye", "cash", 7), 4), (("cash", "oil", 10 ** 12), 1), (("rye", "oil", 0), 2)):
            found = changed(plan, [("row", "far") + row]).table_named("far").rows
            expected = list(table.rows)
            expected[at:at + 1] = [row]
            self.same(found, tuple(expected))
        self.fails(BadChange, (0,), changed, plan, [("row", "far", "rye", "cash", 10 ** 12 + 1)])
        for row in (("rye", "rye", 1), ("corn", "oil", 1), ("oil", "", 1)):
            self.fails(CannotBe, (1,), changed, plan, [("row", "far", "rye", "cash", 1), ("row", "far") + row])

    def test_without_changes(self):
        chance = random.Random(182)
        for _ in range(20):
            plan = random_plan(chance, 7)
            for none in ((), []):
                found = changed(plan, none)
                self.assertTrue(found == plan and type(found) is Plan)

    def test_shapes(self):
        plan = example_plan()
        right = (("put", "gap", "till", "new", ("rest",)), ("step", "gap", ("rest",)), ("row", "day", "oil", "cash", 1), ("cover", "firm", "day"),
                 ("cut", "gap", "till"), ("calm", "shift", "bar", "deep"))
        words = ("oil", "buy", "a", "", "Oil", "oil1", "cash")
        for change in right:
            self.assertNotIsInstance(self.raised(plan, change), BadChange)
            for wrong in (change[:-1], change + ("x",), (), change[:1], ("puts",) + change[1:], (None,) + change[1:], (list(change),) + change[1:]):
                self.fails(BadChange, (1,), changed, plan, [change, wrong, None])
            for at in range(1, len(change)):
                for thing in THINGS:
                    wrong = change[:at] + (thing,) + change[at + 1:]
                    fault = self.raised(plan, wrong)
                    self.same(isinstance(fault, BadChange), not self.is_right(change[0], at, thing, words))
        for thing in THINGS:
            self.fails(BadChange, (0,), changed, plan, [thing, ("cut", "x", "y")])
        for step in (("move",), ("move", None), ("move", ["day"]), ("move", "day", "day"), ("look",), ("look", ()), ("look", "firm"), ("look", ["firm", 1]),
                     ("look", [None]), ("tell", "x"), ("walk",), (None,), (), "tell", "rest", None, (True,), (["tell"],), ("close", ())):
            for change in (("step", "gap", step), ("put", "gap", "till", "new", step)):
                self.fails(BadChange, (2,), changed, plan, [right[1], right[3], change])
        for step in (["move", ""], ["look", ["x", "x"]], ("look", ("",))):
            self.fails(CannotBe, (0,), changed, plan, [("step", "gap", step)])

    def raised(self, plan, change):
        try:
            return changed(plan, [change])
        except MarketError as fault:
            return fault

    def is_right(self, word, at, thing, words):
        """Whether the object may stand at this place of a change."""
        if (word, at) in (("put", 4), ("step", 2)):
            return False
        if (word, at) == ("put", 3):
            return type(thing) is str and 1 <= len(thing) <= 12 and all("a" <= letter <= "z" for letter in thing)
        if (word, at) == ("row", 4):
            return type(thing) is int and 0 <= thing <= 10 ** 12
        return type(thing) is str or (word, at, thing) == ("calm", 3, None)

    def test_what_cannot_be(self):
        """Each of the reasons that [10.7] names."""
        twelve = chain_plan(*(("rest",),) * 12)
        plan = Plan(OIL, TABLES, TWO_GROUPS, [("na", ("move", "day"), [("na", "day"), ("nb", None)]), ("nb", ("tell",), [("na", None)])])
        for told, change in (
                (plan, ("put", "na", "nb", "na", ("rest",))), (twelve, ("put", "na", "nb", "new", ("rest",))), (plan, ("cut", "nb", "na")),
                (plan, ("step", "na", ("rest",))), (plan, ("row", "day", "oil", "oil", 1)), (plan, ("step", "nb", ("look", ("firm", "firm")))),
                (plan, ("put", "nb", "nb", "new", ("rest",))), (plan, ("put", "nc", "nb", "new", ("rest",))), (plan, ("put", "nb", "na", "new", ("move", "x"))),
                (plan, ("step", "nc", ("rest",))), (plan, ("step", "nb", ("look", ("x",)))), (plan, ("row", "x", "oil", "cash", 1)),
                (plan, ("cover", "x", "day")), (plan, ("cover", "firm", "x")), (plan, ("cut", "na", "nc")), (plan, ("cut", "nc", "na")),
                (plan, ("calm", "nb", "na", "day")), (plan, ("calm", "na", "nb", "x")), (plan, ("calm", "na", "nc", None)), (plan, ("calm", "nc", "na", None))):
            self.fails(CannotBe, (0,), changed, told, (change,))
            self.fails(CannotBe, (1,), changed, told, [["cover", "firm", "deep"], change, ("cut", "zz", "zz")])
            self.fails(BadChange, (2,), changed, told, [["cover", "firm", "deep"], change, ("cut", "zz")])

    def test_changes_see_what_came_before(self):
        plan = example_plan()
        changes = [("put", "gap", "till", "new", ("move", "day")), ("calm", "new", "till", "deep"), ("put", "new", "till", "other", ("rest",)),
                   ("cut", "gap", "new")]
        found = changed(plan, changes[:3])
        self.same(found.nodes[0][2] + found.nodes[4][2] + found.nodes[5][2], (("new", None), ("other", "deep"), ("till", None)))
        self.fails(CannotBe, (3,), changed, plan, changes)
        self.fails(CannotBe, (0,), changed, plan, changes[1:])
        for count in range(8):
            plan = changed(plan, [("put", plan.first, plan.nodes[0][2][0][0], "n" + "abcdefgh"[count], ("rest",))])
        self.fails(CannotBe, (0,), changed, plan, [("put", "bar", "gap", "z", ("rest",))])

    def test_nodes_that_cannot_be_reached_stay(self):
        plan = Plan(OIL, TABLES, GROUPS, [("na", ("rest",), [("na", None), ("nb", None)]), ("nb", ("rest",), [("na", None)])])
        self.same(changed(plan, [("cut", "na", "nb")]).node_names, ("na", "nb"))


class TestMoreTellingsAndLooks(Promises):
    """[10.12]: a plan that never pays still never pays with more tellings and looks; a close may spoil it."""

    def test_random_plans(self):
        chance = random.Random(183)
        compared = 0
        while compared < 150:
            plan = forward_plan(chance, 7) if compared % 2 else busy_plan(chance)
            if not verdict(plan).is_safe:
                continue
            look = ("look", tuple(chance.sample(plan.group_names, chance.randint(1, len(plan.group_names)))))
            one = chance.choice(plan.node_names)
            other = chance.choice([node for node, _ in plan.followers(one)])
            changes = [("put", one, other, "new", chance.choice((("tell",), look)))]
            changes += [("step", node, chance.choice((("tell",), look))) for node in plan if plan.kind(node) == "rest"]
            changes += [("step", node, ("look", plan.group_names)) for node in plan if plan.kind(node) == "look"]
            for change in changes:
                self.same(verdict(changed(plan, [change])).is_safe, True)
                compared += 1

    def test_a_close_can_spoil(self):
        plan = chain_plan(("desk",), ("move", "deep"), ("rest",), groups=(("firm", "day"),))
        self.same([verdict(changed(plan, changes)).is_safe for changes in ((), [("step", "nc", ("close",))])], [True, False])


class TestAlone(Promises):
    def look(self, plan, group, table):
        found = alone(plan, group, table)
        cover = plan.cover_table(group) if table is None else table
        self.same((found.goods, found.group_names, found.node_names), (plan.goods, (group,), plan.node_names))
        for name, step, followers in plan.nodes:
            expected = step if step[0] != "look" else ("look", (group,)) if group in step[1] else ("rest",)
            self.same((found.step(name), found.followers(name)), (expected, followers))
        named = {step[1] for _, step, _ in plan.nodes if step[0] == "move"} | {calm for row in plan.nodes for _, calm in row[2]}
        kept = [row for row in plan.tables if row[0] in named]
        own = dict(plan.groups)[group]
        free = [name for name in (own, "cover", "covera", "coverb", "coverc", "coverd", "covere", "coverf") if name not in named]
        self.same(found.table_names, tuple(name for name, _ in kept) + (free[0],))
        self.same(found.groups, ((group, free[0]),))
        self.assertTrue(found.tables[:-1] == tuple(kept) and found.tables[-1][1] == cover)
        for end in ENDS:
            for up, down in all_pairs(plan.goods):
                self.same(longest(found, group, end, up, down), longest(plan, group, end, up, down))

    def test_random_plans(self):
        chance = random.Random(184)
        for number in range(80):
            plan = random_plan(chance, 6) if number % 2 else busy_plan(chance)
            for group in plan.group_names:
                self.look(plan, group, None)
                self.look(plan, group, Table.full(plan.goods, 3))

    def plan_of_tables(self, names, moving, cover):
        nodes = [("n" + "abcdefgh"[at], ("move", name), [("n" + "abcdefgh"[(at + 1) % len(moving)], None)]) for at, name in enumerate(moving)]
        return Plan(OIL, [(name, DAY) for name in names], [("firm", cover)], nodes)

    def test_names_of_cover_tables(self):
        for names, moving, cover, expected in (
                (("day",), ("day",), "day", "cover"), (("day", "cover"), ("day", "cover"), "day", "covera"),
                (("day", "cover"), ("day",), "day", "cover"), (("day", "cover"), ("cover",), "day", "day"),
                (("cover", "covera", "coverb"), ("cover", "covera", "coverb"), "covera", "coverc"),
                (("cover", "covera", "coverb"), ("cover", "coverb"), "coverb", "covera"),
                (("cover", "covera", "coverb", "coverc", "coverd", "covere", "day"), ("cover", "covera", "coverb", "coverc", "coverd", "covere", "day"), "day", "coverf")):
            plan = self.plan_of_tables(names, moving, cover)
            self.same(alone(plan, "firm", DEEP_TABLE).table_names, tuple(name for name in names if name in moving) + (expected,))
            self.look(plan, "firm", None)

    def test_calm_tables_are_kept(self):
        nodes = [("na", ("move", "day"), [("na", "calm"), ("nb", "other")]), ("nb", ("rest",), [("na", None)])]
        plan = Plan(OIL, [("x", DAY), ("other", DAY), ("y", DAY), ("calm", DAY), ("day", DAY)], [("firm", "calm")], nodes)
        self.same(alone(plan, "firm").table_names, ("other", "calm", "day", "cover"))

    def test_eight_tables_and_a_ninth(self):
        names = tuple("abcdefgh")
        for moving, cover, count in ((names, "a", 9), (names[:7], "a", None), (names[:7], "h", None)):
            plan = self.plan_of_tables(names, moving, cover)
            if count is None:
                self.same(len(alone(plan, "firm").tables), 8)
            else:
                for table in (None, DAY):
                    self.fails(TooManyTables, (count,), alone, plan, "firm", table)

    def test_errors_in_their_order(self):
        plan, other = self.plan_of_tables(tuple("abcdefgh"), tuple("abcdefgh"), "a"), Table.full(("rye",), 1)
        for thing in THINGS:
            self.fails(NoGroup, (thing,), alone, plan, thing, other)
            self.fails(NoGroup, (thing,), alone, example_plan(), thing)
        self.fails(OtherGoods, (), alone, plan, "firm", other)
        self.fails(OtherGoods, (), alone, example_plan(), "firm", Table.full(("oil", "rye"), 1))

    def test_great_tables(self):
        table = Table.full(OIL, GREAT, cap=GREAT)
        self.assertTrue(alone(example_plan(), "firm", table).cover_table("firm") == table)


class TestShorter(Promises):
    def told(self, plan):
        """The shorter plan, by the words of [10.9]."""
        near = {name: [other for other, _ in followers] for name, _, followers in plan.nodes}
        known = {plan.first}
        for _ in plan:
            known |= {other for name in known for other in near[name]}
        nodes = [row for row in plan.nodes if row[0] in known]
        while True:
            for name, step, followers in nodes:
                other = followers[0][0]
                ahead = [[one for one, _ in row[2]] for row in nodes if name in [one for one, _ in row[2]]]
                if (step == ("rest",) and name != plan.first and len(followers) == 1 and other != name
                        and not any(other in row for row in ahead)):
                    break
            else:
                return Plan(plan.goods, plan.tables, plan.groups, nodes)
            nodes = [(one, told, tuple((other if to == name else to, calm) for to, calm in rows)) for one, told, rows in nodes if one != name]

    def test_random_plans(self):
        chance = random.Random(185)
        fewer = 0
        kinds = ("rest", "rest", "rest", "move", "tell", "desk", "free", "look", "close")
        for number in range(250):
            plan = random_plan(chance, 8, chance.choice((1, 2, 3)), (0, 1, 2), kinds)
            found = shorter(plan)
            self.assertTrue(found == self.told(plan))
            self.assertTrue(shorter(found) == found)
            fewer += len(found.nodes) < len(plan.nodes)
            if number % 4 == 0:
                for group in plan.group_names:
                    self.assertTrue(least_table(found, group) == least_table(plan, group))
        self.assertGreater(fewer, 100)

    def test_a_ring_of_rests(self):
        plan = chain_plan(("tell",), ("rest",), ("rest",), ("rest",), back="nb")
        self.same(shorter(plan).nodes, (("na", ("tell",), (("nd", None),)), ("nd", ("rest",), (("nd", None),))))

    def test_the_first_node_and_double_edges_stay(self):
        plan = chain_plan(("rest",), ("rest",), ("tell",), back="na")
        self.same(shorter(plan).node_names, ("na", "nc"))
        nodes = [("na", ("tell",), [("nb", None), ("nc", None)]), ("nb", ("rest",), [("nc", None)]), ("nc", ("desk",), [("nb", None)])]
        self.same(shorter(Plan(OIL, TABLES, GROUPS, nodes)).node_names, ("na", "nb", "nc"))
        nodes[0] = ("na", ("tell",), [("nb", None)])
        self.same(shorter(Plan(OIL, TABLES, GROUPS, nodes)).nodes, (("na", ("tell",), (("nc", None),)), ("nc", ("desk",), (("nc", None),))))

    def test_calm_tables_stay_on_the_edges(self):
        nodes = [("na", ("move", "day"), [("nb", "deep"), ("na", None)]), ("nb", ("rest",), [("nc", None)]), ("nc", ("rest",), [("nd", None)]),
                 ("nd", ("tell",), [("na", None)]), ("ne", ("rest",), [("na", None)])]
        found = shorter(Plan(OIL, TABLES, GROUPS, nodes))
        self.same(found.nodes, (("na", ("move", "day"), (("nd", "deep"), ("na", None))), ("nd", ("tell",), (("na", None),))))
        self.assertTrue(found.tables == TABLES and found.groups == GROUPS)

    def test_rests_with_two_followers_stay(self):
        nodes = [("na", ("tell",), [("nb", None)]), ("nb", ("rest",), [("na", None), ("nc", None)]), ("nc", ("desk",), [("na", None)])]
        self.same(shorter(Plan(OIL, TABLES, GROUPS, nodes)).node_names, ("na", "nb", "nc"))


if __name__ == "__main__":
    unittest.main()
