"""[3.1] to [3.8], [3.13] and the interface of coveredday.tables."""

import random
import unittest

from coveredday.errors import BadGoods, BadTable, LowTable, NoAsset, OpenTable, OtherGoods
from coveredday.tables import Table
from tests.common import THINGS, Promises, all_pairs, moves_within, random_rows
from tests.test_closure import EXAMPLE, least_sums
from tests.test_names import goods_word

GOODS = ("oil", "rye")
HUGE = 10 ** 40


def example():
    return Table(GOODS, EXAMPLE)


def entries_of(goods, sums):
    """Entries in the order of pairs, off a dict of closed entries."""
    return tuple((up, down, sums[up, down]) for up, down in all_pairs(goods))


def random_table(chance, count, mosts=(0, 1, 2, 3)):
    goods = ("a", "b", "c", "d", "e")[:count]
    return Table(goods, random_rows(chance, goods, mosts), cap=HUGE)


class TestMaking(Promises):
    def test_rows_are_kept_as_passed_but_as_tuples(self):
        goods, rows = ["oil", "rye"], [list(row) for row in EXAMPLE]
        table = Table(goods, rows)
        rows[0][2] = 0
        rows.pop()
        goods.pop()
        self.same((table.goods, table.rows, tuple(table)), (GOODS, EXAMPLE, EXAMPLE))
        self.same(table["rye", "cash"], 4)

    def test_wrong_goods_come_first(self):
        for thing in THINGS:
            if goods_word(thing) is not None:
                self.fails(BadGoods, (goods_word(thing),), Table, thing, None)
                self.fails(BadGoods, (goods_word(thing),), Table.full, thing, None)

    def test_wrong_rows(self):
        for thing in THINGS:
            if not isinstance(thing, (list, tuple)):
                self.fails(BadTable, (None, "rows"), Table, GOODS, thing)

    def test_word_row(self):
        for thing in THINGS:
            three = isinstance(thing, (list, tuple)) and len(thing) == 3
            self.fails(BadTable, (2, "up" if three else "row"), Table, GOODS, EXAMPLE[:2] + (thing,))
        self.fails(BadTable, (0, "row"), Table, GOODS, [("cash", "oil")])
        self.fails(BadTable, (0, "row"), Table, GOODS, [("cash", "oil", 1, 1)])

    def test_words_up_and_down(self):
        for thing in THINGS:
            if thing not in ("cash", "oil", "rye"):
                self.fails(BadTable, (1, "up"), Table, GOODS, [EXAMPLE[0], (thing, thing, None)])
                self.fails(BadTable, (1, "down"), Table, GOODS, [EXAMPLE[0], ["oil", thing, None]])

    def test_word_same(self):
        for asset in ("cash", "oil", "rye"):
            self.fails(BadTable, (0, "same"), Table, GOODS, [(asset, asset, None)])

    def test_word_most_and_cap(self):
        for thing in THINGS + (10 ** 12 + 1,):
            right = type(thing) is int and 0 <= thing <= 10 ** 12
            if not right:
                self.fails(BadTable, (1, "most"), Table, GOODS, [EXAMPLE[0], ("oil", "cash", thing)])
                self.fails(BadTable, (0, "most"), Table.full, GOODS, thing)
        for cap in (0, 1, 10 ** 12, HUGE):
            self.fails(BadTable, (0, "most"), Table, ("oil",), [("cash", "oil", cap + 1)], cap=cap)
            self.fails(BadTable, (0, "most"), Table.full, ("oil",), cap + 1, cap=cap)
            rows = (("cash", "oil", cap), ("oil", "cash", 0))
            self.same(Table(("oil",), rows, cap=cap).rows, rows)
            self.same(Table.full(("oil",), cap, cap=cap).rows, (("cash", "oil", cap), ("oil", "cash", cap)))
        self.same(Table.full(("oil",), 10 ** 12)["oil", "cash"], 10 ** 12)

    def test_word_double(self):
        self.fails(BadTable, (2, "double"), Table, GOODS, [EXAMPLE[0], EXAMPLE[1], ["cash", "oil", 5]])
        self.fails(BadTable, (2, "most"), Table, GOODS, [EXAMPLE[0], EXAMPLE[1], ["cash", "oil", -1]])
        self.same(len(Table(GOODS, EXAMPLE + (("cash", "rye", 9),)).rows), 6)

    def test_the_first_wrong_row_comes_first(self):
        self.fails(BadTable, (1, "most"), Table, GOODS, [EXAMPLE[0], ("oil", "cash", True), None])
        self.fails(BadTable, (1, "double"), Table, GOODS, [EXAMPLE[0], EXAMPLE[0], None])

    def test_open_tables(self):
        self.fails(OpenTable, ("cash", "oil"), Table, GOODS, [])
        self.fails(OpenTable, ("cash", "rye"), Table, GOODS, EXAMPLE[:2])
        self.fails(OpenTable, ("rye", "cash"), Table, GOODS, EXAMPLE[:3])
        self.fails(OpenTable, ("oil", "cash"), Table, GOODS, [("cash", "oil", 1), ("oil", "rye", 1)])
        self.fails(OpenTable, ("cash", "oil"), Table, ("oil",), [("oil", "cash", 0)])
        self.fails(BadTable, (0, "most"), Table, GOODS, [("cash", "oil", -1)])

    def test_full(self):
        for count in range(1, 6):
            goods = ["a", "b", "c", "d", "e"][:count]
            for most in (0, 1, 10 ** 12):
                table = Table.full(goods, most)
                self.same(table.rows, tuple((up, down, most) for up, down in all_pairs(goods)))
                self.same((table.entries, table.goods), (table.rows, tuple(goods)))


class TestEntries(Promises):
    def test_the_example(self):
        table = example()
        self.same((table["rye", "cash"], table["cash", "rye"], table.chain("rye", "cash")),
                  (4, 3, ("rye", "oil", "cash")))
        self.same(table.entries, (
            ("cash", "oil", 2), ("cash", "rye", 3), ("oil", "cash", 3), ("oil", "rye", 1), ("rye", "cash", 4),
            ("rye", "oil", 1)))

    def test_two_like_assets(self):
        for asset in ("cash", "oil", "rye"):
            self.same((example()[asset, asset], example().chain(asset, asset)), (0, (asset,)))

    def test_no_asset_first_up_then_down(self):
        table = example()
        for thing in THINGS:
            if thing not in ("cash", "oil", "rye"):
                for call in (lambda up, down: table[up, down], table.chain, table.lowered):
                    self.fails(NoAsset, (thing,), call, thing, "tin")
                    self.fails(NoAsset, (thing,), call, thing, "oil")
                    self.fails(NoAsset, (thing,), call, "oil", thing)
                    self.fails(NoAsset, (thing,), call, thing, thing)

    def test_entries_and_chains_against_all_chains(self):
        chance = random.Random(35)
        for number in range(150):
            table = random_table(chance, number % 5 + 1, (0, 0, 1, 2, 7, HUGE))
            known = ("cash",) + table.goods
            sums = least_sums(known, table.rows)
            self.same(table.entries, entries_of(table.goods, sums))
            mosts = {(up, down): most for up, down, most in table.rows}
            for up in known:
                for down in known:
                    self.same(table[up, down], sums[up, down])
                    chain = table.chain(up, down)
                    self.assertIsInstance(chain, tuple)
                    self.same((chain[0], chain[-1], len(set(chain))), (up, down, len(chain)))
                    self.same(sum(mosts[step] for step in zip(chain, chain[1:])), sums[up, down])

    def test_rows_above_the_closed_entry_say_nothing(self):
        rows = [row for row in EXAMPLE if row != ("rye", "cash", 9)]
        self.assertTrue(example() == Table(GOODS, rows))
        self.assertTrue(example() == Table(GOODS, example().entries))

    def test_equal_if_goods_and_entries_are(self):
        self.assertTrue(example() == Table(list(GOODS), list(EXAMPLE)[::-1]))
        self.assertFalse(example() != example())
        others = (Table.full(GOODS, 1), Table(("rye", "oil"), EXAMPLE), example().lowered("oil", "rye"),
                  example().entries, EXAMPLE, None, 0, GOODS)
        for other in others:
            self.assertFalse(example() == other)
        one, other = Table.full(("oil", "rye"), 1), Table.full(("rye", "oil"), 1)
        self.assertFalse(one == other)

    def test_iteration_gives_the_rows(self):
        table = example()
        self.same(list(table), list(EXAMPLE))
        self.same([most for _, _, most in table], [2, 3, 1, 1, 9])


class TestTogether(Promises):
    def test_other_goods(self):
        table = example()
        for goods in (("rye", "oil"), ("oil",), ("oil", "rye", "tin"), ("oil", "tin")):
            other = Table.full(goods, 1)
            for call in (table.__add__, table.__and__, table.__or__, table.within, table.first_above):
                self.fails(OtherGoods, (), call, other)

    def test_sums_of_entries(self):
        chance = random.Random(36)
        for number in range(60):
            count = number % 5 + 1
            one, other = (random_table(chance, count, (0, 1, 4, 10 ** 12)) for _ in range(2))
            before = repr((one.rows, one.entries, other.rows, other.entries))
            pairs = all_pairs(one.goods)
            summed, both, either = one + other, one & other, one | other
            self.same(summed.entries, tuple((*pair, one[pair] + other[pair]) for pair in pairs))
            self.same(either.entries, tuple((*pair, max(one[pair], other[pair])) for pair in pairs))
            lesser = [(*pair, min(one[pair], other[pair])) for pair in pairs]
            sums = least_sums(("cash",) + one.goods, lesser)
            self.same(both.entries, entries_of(one.goods, sums))
            for table in (summed, both, either):
                self.assertIs(type(table), Table)
                self.same((table.rows, table.goods), (table.entries, one.goods))
            self.assertTrue(one & other == other & one and one | other == other | one and one + other == other + one)
            self.assertTrue(one & one == one and one | one == one)
            self.same(repr((one.rows, one.entries, other.rows, other.entries)), before)

    def test_closing_of_both(self):
        one = Table(("a", "b"), (("a", "b", 1), ("b", "a", 9), ("a", "cash", 9), ("cash", "a", 9), ("b", "cash", 9)))
        other = Table(("a", "b"), (("b", "cash", 1), ("cash", "b", 9), ("a", "b", 9), ("b", "a", 9)))
        self.same(((one & other)["a", "cash"], min(one["a", "cash"], other["a", "cash"])), (2, 9))

    def test_no_bound(self):
        table = Table.full(("oil",), HUGE, cap=HUGE)
        self.same((table + table)["oil", "cash"], 2 * HUGE)
        self.same(((table + table) & table).rows, table.rows)
        self.same(Table(("oil",), (table + table).entries, cap=2 * HUGE) == table + table, True)
        self.fails(BadTable, (0, "most"), Table, ("oil",), (table + table).entries)
        top = Table.full(("oil",), 10 ** 12)
        self.same(((top + top) | top)["cash", "oil"], 2 * 10 ** 12)
        self.same((top + top).lowered("cash", "oil")["cash", "oil"], 2 * 10 ** 12 - 1)

    def test_moves_within_tables_put_together(self):
        chance = random.Random(313)
        for number in range(60):
            one, other = (random_table(chance, number % 3 + 1, (0, 1, 2)) for _ in range(2))
            ones, others = set(moves_within(one)), set(moves_within(other))
            self.assertEqual(set(moves_within(one & other)), ones & others)
            self.assertTrue(ones | others <= set(moves_within(one | other)))
            sums = {tuple(a + b for a, b in zip(x, y)) for x in ones for y in others}
            self.assertTrue(sums <= set(moves_within(one + other)))
            self.same(one.within(other), ones <= others)


class TestWithin(Promises):
    def test_one_entry_above(self):
        table = example()
        self.same((table.within(example()), table.first_above(example())), (True, None))
        for up, down in all_pairs(GOODS):
            low = table.lowered(up, down)
            self.same((low.within(table), low.first_above(table), table.within(low)), (True, None, False))

    def test_the_first_pair_in_order(self):
        chance = random.Random(37)
        for number in range(100):
            one, other = (random_table(chance, number % 5 + 1) for _ in range(2))
            above = [pair for pair in all_pairs(one.goods) if one[pair] > other[pair]]
            self.same((one.first_above(other), one.within(other)), (above[0] if above else None, not above))


class TestLowered(Promises):
    def test_against_all_chains(self):
        chance = random.Random(38)
        for number in range(60):
            table = random_table(chance, number % 4 + 1)
            before = repr((table.rows, table.entries))
            for up, down in all_pairs(table.goods):
                for by in range(table[up, down] + 1):
                    rows = [(*pair, table[pair] - by * (pair == (up, down))) for pair in all_pairs(table.goods)]
                    right = entries_of(table.goods, least_sums(("cash",) + table.goods, rows))
                    low = table.lowered(up, down, by)
                    self.same((low.entries, low.rows), (right, right))
                    self.same(low[up, down], table[up, down] - by)
                self.fails(LowTable, (up, down), table.lowered, up, down, table[up, down] + 1)
            self.same(repr((table.rows, table.entries)), before)

    def test_one_is_the_default(self):
        self.same(example().lowered("cash", "oil")["cash", "oil"], 1)
        self.same(example().lowered("cash", "oil", by=2)["cash", "oil"], 0)
        self.fails(LowTable, ("cash", "oil"), Table.full(GOODS, 0).lowered, "cash", "oil")

    def test_other_entries_fall_too(self):
        low = example().lowered("oil", "rye")
        self.same((low["oil", "rye"], low["cash", "rye"], example()["cash", "rye"]), (0, 2, 3))

    def test_two_like_assets(self):
        table = example()
        for asset in ("cash", "oil", "rye"):
            same = table.lowered(asset, asset, 0)
            self.assertTrue(same == table)
            self.same(same.rows, table.entries)
            for by in (1, 5, HUGE):
                self.fails(LowTable, (asset, asset), table.lowered, asset, asset, by)
        self.fails(LowTable, ("oil", "oil"), table.lowered, "oil", "oil")

    def test_by_0_gives_the_entries_as_rows(self):
        same = example().lowered("rye", "cash", 0)
        self.assertTrue(same == example())
        self.same(same.rows, example().entries)


if __name__ == "__main__":
    unittest.main()
