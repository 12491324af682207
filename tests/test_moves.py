"""[3.9], [3.10], [3.11] and the interface of coveredday.moves."""

import random
import unittest
from itertools import product

from coveredday.errors import BadGoods, BadMove, NoAsset
from coveredday.moves import check_move, extreme_move, first_broken, fits, parting, still
from coveredday.tables import Table
from tests.common import THINGS, Promises, all_pairs, moves_within
from tests.test_names import goods_word
from tests.test_tables import GOODS, example, random_table

HUGE = 10 ** 40


class TestMoves(Promises):
    def test_still(self):
        for count in range(1, 6):
            goods = ["a", "b", "c", "d", "e"][:count]
            self.same((still(goods), still(tuple(goods))), ((0,) * count, (0,) * count))
        for thing in THINGS:
            if goods_word(thing) is not None:
                self.fails(BadGoods, (goods_word(thing),), still, thing)

    def test_check_move(self):
        given = [3, -HUGE]
        told = check_move(list(GOODS), given)
        given[0] = 9
        self.same((told, check_move(GOODS, (0, 10 ** 12 + 1))), ((3, -HUGE), (0, 10 ** 12 + 1)))

    def test_wrong_moves(self):
        table = example()
        calls = (lambda move: check_move(GOODS, move), lambda move: fits(move, table),
                 lambda move: first_broken(move, table), lambda move: parting(GOODS, move, None, None))
        for call in calls:
            for thing in THINGS:
                two = isinstance(thing, (list, tuple)) and len(thing) == 2
                if not two:
                    self.fails(BadMove, ("move",), call, thing)
                elif [type(number) for number in thing] != [int, int]:
                    self.fails(BadMove, ("number",), call, thing)
                if type(thing) is not int:
                    self.fails(BadMove, ("number",), call, [thing, 1])
                    self.fails(BadMove, ("number",), call, (1, thing))
            self.fails(BadMove, ("move",), call, [None])
            self.fails(BadMove, ("move",), call, [1, 2, True])

    def test_wrong_goods_come_first(self):
        for thing in THINGS:
            if goods_word(thing) is not None:
                self.fails(BadGoods, (goods_word(thing),), check_move, thing, None)
                self.fails(BadGoods, (goods_word(thing),), parting, thing, None, None, None)

    def test_parting(self):
        move = [4, -HUGE]
        changes = {"cash": 0, "oil": 4, "rye": -HUGE}
        for up, down in product(changes, repeat=2):
            self.same(parting(list(GOODS), move, up, down), changes[up] - changes[down])
        for thing in THINGS:
            if thing not in ("cash", "oil", "rye"):
                self.fails(NoAsset, (thing,), parting, GOODS, move, thing, "tin")
                self.fails(NoAsset, (thing,), parting, GOODS, move, "oil", thing)


class TestWithin(Promises):
    def test_just_at_an_entry_and_one_beyond_it(self):
        table = Table(("oil",), (("oil", "cash", 3), ("cash", "oil", 2)))
        for change in range(-5, 6):
            self.same(fits([change], table), -2 <= change <= 3)
            broken = ("cash", "oil") if change < -2 else ("oil", "cash") if change > 3 else None
            self.same(first_broken((change,), table), broken)

    def test_rows_and_closed_entries_say_the_same(self):
        chance = random.Random(310)
        for number in range(40):
            table = random_table(chance, number % 3 + 1)
            for move in product(range(-4, 5), repeat=len(table.goods)):
                changes = dict(zip(table.goods, move), cash=0)
                broken = [(up, down) for up, down in all_pairs(table.goods)
                          if changes[up] - changes[down] > table[up, down]]
                self.same((fits(move, table), first_broken(list(move), table)),
                          (not broken, broken[0] if broken else None))

    def test_broken_tells_a_pair_that_no_row_names(self):
        self.same((first_broken((3, 4), example()), fits((3, 4), example())), (None, True))
        table = Table(GOODS, [row for row in example().rows if row != ("rye", "cash", 9)])
        self.same(first_broken((3, 5), table), ("rye", "cash"))

    def test_all_prices_may_stand(self):
        for table in (Table.full(GOODS, 0), example()):
            self.same((fits(still(GOODS), table), first_broken(still(GOODS), table)), (True, None))

    def test_tables_and_moves_beyond_the_bounds(self):
        table = Table.full(GOODS, HUGE, cap=HUGE)
        self.same((fits((HUGE, 0), table), fits((HUGE + 1, 0), table)), (True, False))
        self.same(first_broken((-HUGE, 1), table), ("rye", "oil"))


class TestExtremeMove(Promises):
    def test_it_lies_within_and_parts_by_the_entry(self):
        chance = random.Random(311)
        for number in range(60):
            table = random_table(chance, number % 5 + 1, (0, 1, 2, 5, HUGE))
            known = ("cash",) + table.goods
            for up, down in product(known, repeat=2):
                move = extreme_move(table, up, down)
                self.same(move, tuple(table[good, down] - table["cash", down] for good in table.goods))
                self.same((fits(move, table), parting(table.goods, move, up, down)), (True, table[up, down]))

    def test_no_closed_entry_is_too_great(self):
        chance = random.Random(4)
        for number in range(20):
            table = random_table(chance, number % 3 + 1)
            moves = list(moves_within(table))
            for up, down in all_pairs(table.goods):
                self.same(max(parting(table.goods, move, up, down) for move in moves), table[up, down])

    def test_no_asset_first_up_then_down(self):
        for thing in THINGS:
            if thing not in ("cash", "oil", "rye"):
                self.fails(NoAsset, (thing,), extreme_move, example(), thing, "tin")
                self.fails(NoAsset, (thing,), extreme_move, example(), "oil", thing)


if __name__ == "__main__":
    unittest.main()
