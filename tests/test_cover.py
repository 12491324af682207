"""[4.1], [4.5], [4.6], [4.9] and the interface of coveredday.cover."""

import random
import unittest
from itertools import product

from coveredday.cover import Cover, cover, cover_amount, cover_over, worst_moves
from coveredday.errors import OtherGoods
from coveredday.holdings import Holdings
from coveredday.moves import fits
from coveredday.pairing import cost_of
from coveredday.parcels import Parcels
from coveredday.position import Position
from coveredday.tables import Table
from coveredday.tablesums import total
from tests.common import THINGS, Promises, all_pairs, moves_within
from tests.test_pairing import OTHERS, pairing_is_right, random_position, small_positions
from tests.test_tables import GOODS, example, random_table

HUGE = 10 ** 40
THREE = ("a", "b", "c")


def only_move(move):
    """The table in which just the still move and this one, of 0 and 1, lie."""
    changes = dict(zip(THREE, move), cash=0)
    return Table(THREE, [(up, down, max(0, changes[up] - changes[down])) for up, down in all_pairs(THREE)])


class TestCover(Promises):
    def test_it_keeps_any_objects(self):
        for thing in THINGS:
            found = Cover(thing, [thing], (thing,))
            self.assertIs(found.amount, thing)
            self.same((found.pairs, found.move), ([thing], (thing,)))
        pairs = [["oil", "cash", 1]]
        self.assertIs(Cover(1, pairs, None).pairs, pairs)

    def test_the_example(self):
        found = cover(Position(GOODS, (2, -1)), example())
        self.assertIs(type(found), Cover)
        self.same((found.amount, found.pairs, found.move), (3, (("oil", "cash", 1), ("oil", "rye", 1)), (-2, -1)))
        self.same(cover_amount(Position(GOODS, (2, -1)), example()), 3)

    def test_flat_positions_need_nothing(self):
        found = cover(Position.flat(GOODS), example())
        self.same((found.amount, found.pairs, fits(found.move, example())), (0, (), True))

    def test_the_greatest_loss_by_any_move(self):
        chance = random.Random(45)
        for count in (1, 2, 3):
            for _ in range(6):
                table = random_table(chance, count)
                moves = list(moves_within(table))
                for position in small_positions(count, 3):
                    found = cover(position, table)
                    self.same(found.amount, max(position.loss(move) for move in moves))
                    self.same((cover_amount(position, table), position.loss(found.move)), (found.amount,) * 2)
                    self.same(cost_of(found.pairs, table), found.amount)
                    self.assertTrue(pairing_is_right(position, found.pairs))
                    self.assertIn(found.move, moves)

    def test_other_goods(self):
        position, right = Position(GOODS, (1, -1)), example()
        for goods in OTHERS:
            other = Table.full(goods, 1)
            for call in (cover, cover_amount, cover_over, worst_moves):
                self.fails(OtherGoods, (), call, position, other)
            for call in (cover_over, worst_moves):
                self.fails(OtherGoods, (), call, position, right, other)
                self.fails(OtherGoods, (), call, position, other, right)

    def test_a_cover_that_was_returned_stays(self):
        position = Position(GOODS, (2, -1))
        found = cover(position, example())
        found.pairs, found.amount = None, None
        self.same(cover(position, example()).amount, 3)
        self.same(position.counts, (2, -1))


class TestSeveralSteps(Promises):
    def test_without_a_table(self):
        self.same((cover_over(Position(GOODS, (2, -1))), worst_moves(Position(GOODS, (2, -1)))), (0, ()))

    def test_the_example(self):
        one, other = only_move((1, 1, 0)), only_move((0, 1, 1))
        self.same(sorted(moves_within(one)), [(0, 0, 0), (1, 1, 0)])
        self.same(sorted(moves_within(other)), [(0, 0, 0), (0, 1, 1)])
        position = Position(THREE, (1, -1, 1))
        self.same((cover_amount(position, one), cover_amount(position, other)), (0, 0))
        self.same((cover_over(position, one, other), cover_amount(position, one + other)), (0, 1))
        self.same(fits((0, 1, 0), total(THREE, one, other)), True)

    def test_the_greatest_loss_by_rows_of_moves(self):
        chance = random.Random(46)
        for number in range(30):
            tables = [random_table(chance, number % 2 + 1, (0, 1, 2)) for _ in range(number % 3 + 1)]
            rows = list(product(*[list(moves_within(table)) for table in tables]))
            for position in small_positions(number % 2 + 1, 2):
                worst = max(sum(position.loss(move) for move in row) for row in rows)
                moves = worst_moves(position, *tables)
                self.same((cover_over(position, *tables), sum(position.loss(move) for move in moves)), (worst, worst))
                self.assertIn(moves, rows)

    def test_never_above_the_cover_under_the_total(self):
        chance = random.Random(47)
        for number in range(80):
            tables = [random_table(chance, number % 5 + 1) for _ in range(3)]
            position = random_position(chance, tables[0].goods, 10 ** 20)
            over, under = cover_over(position, *tables), cover_amount(position, total(position.goods, *tables))
            sizes = [count for _, count in position] + [position["cash"]]
            if len([size for size in sizes if size > 0]) <= 1 and len([size for size in sizes if size < 0]) <= 1:
                self.same(over, under)
            self.assertLessEqual(over, under)

    def test_one_table_twice(self):
        position = Position(GOODS, (2, -1))
        twice = example(), example()
        self.same((cover_over(position, *twice), len(worst_moves(position, *twice))), (6, 2))


class TestFacts(Promises):
    def test_single_goods_and_pairs_of_goods(self):
        chance = random.Random(49)
        for number in range(40):
            table = random_table(chance, number % 5 + 1, (0, 1, 5, HUGE))
            for good in table.goods:
                self.same(cover_amount(Position.single(table.goods, good), table), table["cash", good])
                self.same(cover_amount(Position.single(table.goods, good, -1), table), table[good, "cash"])
            for up, down in all_pairs(table.goods):
                if "cash" not in (up, down):
                    one, other = Position.single(table.goods, up), Position.single(table.goods, down)
                    for count in (1, 7, HUGE):
                        self.same(cover_amount((other - one) * count, table), count * table[up, down])

    def test_sums_and_multiples(self):
        chance = random.Random(50)
        for number in range(60):
            table = random_table(chance, number % 5 + 1)
            one, other = (random_position(chance, table.goods, 10 ** 19) for _ in range(2))
            both = cover_amount(one, table) + cover_amount(other, table)
            self.assertLessEqual(cover_amount(one + other, table), both)
            for times in (0, 1, 2, 10 ** 20):
                self.same(cover_amount(one * times, table), cover_amount(one, table) * times)

    def test_tables_put_together(self):
        chance = random.Random(51)
        for number in range(80):
            one, other = (random_table(chance, number % 5 + 1) for _ in range(2))
            position = random_position(chance, one.goods, 20)
            low, high = sorted((cover_amount(position, one), cover_amount(position, other)))
            self.assertLessEqual(cover_amount(position, one & other), low)
            self.assertGreaterEqual(cover_amount(position, one | other), high)
            self.assertLessEqual(cover_amount(position, one & other), cover_amount(position, one))

    def test_taking_parcels_apart_changes_no_cover(self):
        holdings = Holdings(Parcels(GOODS, [("mix", [("oil", 2), ("rye", -1)])]))
        holdings.put("mix", 3)
        before = cover_amount(holdings.position_now(), example())
        holdings.take_apart("mix", 2)
        self.same((before, cover_amount(holdings.position_now(), example())), (9, 9))
        holdings.put_together("mix", 1)
        self.same(cover_amount(holdings.position_now(), example()), 9)


if __name__ == "__main__":
    unittest.main()
