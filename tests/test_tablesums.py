"""[3.12], [3.13] and the interface of coveredday.tablesums."""

import random
import unittest
from itertools import product

from coveredday.errors import BadGoods, NoAsset, OtherGoods
from coveredday.moves import extreme_move, fits, parting
from coveredday.tables import Table
from coveredday.tablesums import all_at_once, extreme_moves, greatest, total
from tests.common import THINGS, Promises, all_pairs, moves_within
from tests.test_closure import least_sums
from tests.test_names import goods_word
from tests.test_tables import GOODS, entries_of, example, random_table

OTHERS = (("rye", "oil"), ("oil",), ("oil", "rye", "tin"))


class TestSums(Promises):
    def test_without_a_table(self):
        for count in range(1, 6):
            goods = ["a", "b", "c", "d", "e"][:count]
            table = total(goods)
            self.same(table.rows, tuple((up, down, 0) for up, down in all_pairs(goods)))
            self.same((table.entries, table.goods), (table.rows, tuple(goods)))

    def test_one_table(self):
        for table in (total(list(GOODS), example()), all_at_once(example()), greatest(example())):
            self.assertTrue(table == example())
            self.same(table.rows, example().entries)

    def test_several_tables(self):
        chance = random.Random(312)
        for number in range(60):
            tables = [random_table(chance, number % 5 + 1, (0, 1, 4, 10 ** 30)) for _ in range(number % 4 + 1)]
            goods, pairs = tables[0].goods, all_pairs(tables[0].goods)
            before = repr([(table.rows, table.entries) for table in tables])
            found = total(goods, *tables), greatest(*tables), all_at_once(*tables)
            self.same(found[0].entries, tuple((*pair, sum(table[pair] for table in tables)) for pair in pairs))
            self.same(found[1].entries, tuple((*pair, max(table[pair] for table in tables)) for pair in pairs))
            lesser = [(*pair, min(table[pair] for table in tables)) for pair in pairs]
            self.same(found[2].entries, entries_of(goods, least_sums(("cash",) + goods, lesser)))
            for table in found:
                self.same((table.rows, table.goods), (table.entries, goods))
            self.same(repr([(table.rows, table.entries) for table in tables]), before)

    def test_wrong_goods_come_first(self):
        for thing in THINGS:
            if goods_word(thing) is not None:
                self.fails(BadGoods, (goods_word(thing),), total, thing)
                self.fails(BadGoods, (goods_word(thing),), total, thing, example())

    def test_other_goods(self):
        for goods in OTHERS:
            other = Table.full(goods, 1)
            self.fails(OtherGoods, (), total, GOODS, other)
            self.fails(OtherGoods, (), total, GOODS, example(), other)
            self.fails(OtherGoods, (), all_at_once, example(), example(), other)
            self.fails(OtherGoods, (), greatest, example(), other, example())
            self.fails(OtherGoods, (), extreme_moves, "oil", "cash", example(), other)
            self.fails(OtherGoods, (), extreme_moves, None, [], example(), other)


class TestExtremeMoves(Promises):
    def test_without_a_table(self):
        for thing in THINGS:
            self.same(extreme_moves(thing, thing), ())

    def test_one_for_each_table(self):
        chance = random.Random(5)
        for number in range(40):
            tables = [random_table(chance, number % 5 + 1) for _ in range(number % 3 + 1)]
            goods = tables[0].goods
            for up, down in product(("cash",) + goods, repeat=2):
                moves = extreme_moves(up, down, *tables)
                self.same(moves, tuple(extreme_move(table, up, down) for table in tables))
                parted = sum(parting(goods, move, up, down) for move in moves)
                self.same(parted, total(goods, *tables)[up, down])

    def test_no_asset_first_up_then_down(self):
        for thing in THINGS:
            if thing not in ("cash", "oil", "rye"):
                self.fails(NoAsset, (thing,), extreme_moves, thing, "tin", example())
                self.fails(NoAsset, (thing,), extreme_moves, "oil", thing, example(), example())


class TestFacts(Promises):
    def test_sums_of_moves_lie_within_what_the_total_is_within(self):
        chance = random.Random(313)
        for number in range(40):
            one, other, third = (random_table(chance, number % 2 + 1, (0, 1, 2)) for _ in range(3))
            bound = third + third if number % 3 else one + other | third
            sums = [tuple(a + b for a, b in zip(x, y)) for x in moves_within(one) for y in moves_within(other)]
            self.same(total(one.goods, one, other).within(bound), all(fits(move, bound) for move in sums))


if __name__ == "__main__":
    unittest.main()
