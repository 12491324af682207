"""[4.2], [4.7], [4.8] and the interface of coveredday.coverjudge."""

import random
import unittest
from itertools import product

from coveredday.cover import Cover, cover
from coveredday.coverjudge import cover_fault, move_fault, pairs_fault
from coveredday.errors import OtherGoods
from coveredday.position import Position
from coveredday.tables import Table
from tests.common import THINGS, Promises, moves_within
from tests.test_pairing import OTHERS, random_position
from tests.test_position import is_number_row
from tests.test_tables import GOODS, example, random_table

HUGE = 10 ** 40
POSITION = Position(GOODS, (2, -1))
PAIRS = (("oil", "cash", 1), ("oil", "rye", 1))


class TestPairsFault(Promises):
    def word(self, pairs, expected, position=POSITION):
        before = repr(pairs)
        self.same(pairs_fault(position, pairs), expected)
        self.same(repr(pairs), before)

    def test_any_order_and_pairs_several_times(self):
        for pairs in (PAIRS, PAIRS[::-1], [list(entry) for entry in PAIRS], list(PAIRS)):
            self.word(pairs, None)
        again = [("oil", "rye", 3), ["oil", "cash", 1], ("oil", "rye", 2), ("oil", "cash", 4), ("oil", "rye", HUGE)]
        self.word(again, None, Position(GOODS, (HUGE + 10, -HUGE - 5)))
        self.word((), None, Position.flat(GOODS))
        self.word([], None, Position.flat(GOODS))

    def test_word_pairs(self):
        for thing in THINGS:
            if not isinstance(thing, (list, tuple)):
                self.word(thing, "pairs")
            if not (isinstance(thing, (list, tuple)) and len(thing) == 3):
                self.word(PAIRS + (thing,), "pairs")
                self.word([("tin", "tin", 0), thing], "pairs")
        self.word([("oil", "cash")], "pairs")
        self.word([("oil", "cash", 1, 1)], "pairs")

    def test_word_asset(self):
        for thing in THINGS + ("tin",):
            if thing not in ("cash", "oil", "rye"):
                self.word([("rye", "rye", 0), (thing, "cash", 1)], "asset")
                self.word([("rye", "rye", 0), ("oil", thing, None)], "asset")

    def test_word_long(self):
        for long in ("cash", "rye"):
            self.word([("oil", "oil", 0), (long, "oil", None)], "long")
        self.word([("oil", "cash", 1), ("rye", "rye", 1)], "long")
        self.word([("oil", "rye", 1)], "long", Position.flat(GOODS))
        self.word([("cash", "rye", 1)], "long", Position(GOODS, (1, -1)))

    def test_word_short(self):
        self.word([("oil", "cash", 0), ("oil", "oil", 1)], "short")
        self.word([("oil", "cash", 1)], "short", Position(GOODS, (1, -1)))
        self.word([("rye", "oil", 0)], "short", Position(GOODS, (1, 1)))

    def test_word_count(self):
        for thing in THINGS:
            if not (type(thing) is int and thing >= 1):
                self.word([("oil", "cash", 7), ("oil", "rye", thing)], "count")
        self.word([("oil", "cash", True), ("oil", "rye", True)], "count")

    def test_word_sum(self):
        for one, other in product(range(1, 4), repeat=2):
            self.word([("oil", "cash", one), ("oil", "rye", other)], None if (one, other) == (1, 1) else "sum")
        self.word((), "sum")
        self.word([("oil", "rye", 2)], "sum")
        self.word([("oil", "cash", 2)], "sum")

    def test_the_first_word_comes_first(self):
        entries = {"pairs": None, "asset": ("tin", "tin", 0), "long": ("rye", "oil", 0), "short": ("oil", "oil", 0),
                   "count": ("oil", "cash", 0), "sum": ("oil", "cash", 9)}
        words = list(entries)
        for first, second in product(range(6), repeat=2):
            self.word([entries[words[first]], entries[words[second]]], words[min(first, second)])

    def test_random_pairings(self):
        chance = random.Random(47)
        for number in range(100):
            position = random_position(chance, ("a", "b", "c", "d", "e")[:number % 5 + 1], 9)
            longs = [asset for asset in ("cash",) + position.goods for _ in range(position[asset])]
            shorts = [asset for asset in ("cash",) + position.goods for _ in range(-position[asset])]
            chance.shuffle(longs)
            pairs = [(long, short, 1) for long, short in zip(longs, shorts)]
            self.word(pairs, None, position)
            if pairs:
                self.word(pairs[1:], "sum", position)
                self.word(pairs + pairs[:1], "sum", position)


class TestMoveFault(Promises):
    def test_any_object(self):
        for thing in THINGS:
            if not is_number_row(thing, 2):
                self.same(move_fault(example(), thing), "move")
            if type(thing) is not int:
                self.same(move_fault(example(), [thing, 0]), "move")
                self.same(move_fault(example(), (0, thing)), "move")
        self.same(move_fault(example(), (99, 99, 99)), "move")
        self.same(move_fault(example(), (99, None)), "move")

    def test_all_moves(self):
        chance = random.Random(48)
        for number in range(20):
            table = random_table(chance, number % 2 + 1)
            within = set(moves_within(table))
            for move in product(range(-4, 5), repeat=len(table.goods)):
                self.same(move_fault(table, move), None if move in within else "broken")
                self.same(move_fault(table, list(move)), None if move in within else "broken")


class TestCoverFault(Promises):
    def fault(self, amount, pairs, move, expected):
        told = Cover(amount, pairs, move)
        self.same(cover_fault(POSITION, example(), told), expected)
        self.same((told.amount, told.pairs, told.move), (amount, pairs, move))

    def test_right_covers(self):
        self.fault(3, PAIRS, (-2, -1), None)
        self.fault(3, [list(entry) for entry in PAIRS], [-2, -1], None)
        chance = random.Random(49)
        for number in range(60):
            table = random_table(chance, number % 5 + 1, (0, 1, 3, HUGE))
            position = random_position(chance, table.goods, HUGE)
            self.same(cover_fault(position, table, cover(position, table)), None)

    def test_words_of_the_pairs_come_first(self):
        for pairs, word in ((None, "pairs"), ([("tin", "oil", 1)], "asset"), ([("rye", "oil", 1)], "long"),
                            ([("oil", "oil", 1)], "short"), ([("oil", "rye", True)], "count"), ((), "sum")):
            self.fault(None, pairs, None, word)

    def test_word_cost(self):
        for thing in THINGS + (2, 3.0):
            if not (type(thing) is int and thing == 3):
                self.fault(thing, PAIRS, None, "cost")

    def test_words_of_the_move(self):
        for thing in THINGS:
            if not is_number_row(thing, 2):
                self.fault(3, PAIRS, thing, "move")
        self.fault(3, PAIRS, (-2, -1, 0), "move")
        self.fault(3, PAIRS, (-3, -3), "broken")
        self.fault(3, PAIRS, (-2, 0), "broken")

    def test_word_loss(self):
        for move in moves_within(example()):
            self.fault(3, PAIRS, move, None if POSITION.loss(move) == 3 else "loss")

    def test_true_is_no_amount(self):
        position, table = Position(("oil",), (1,)), Table.full(("oil",), 1)
        pairs, move = (("oil", "cash", 1),), (-1,)
        self.same([cover_fault(position, table, Cover(amount, pairs, move)) for amount in (1, True)], [None, "cost"])
        flat = Position.flat(("oil",))
        self.same([cover_fault(flat, table, Cover(amount, (), (0,))) for amount in (0, False)], [None, "cost"])

    def test_a_dear_pairing_is_no_cover(self):
        table = Table(("a", "b"), (("cash", "a", 1), ("a", "cash", 1), ("cash", "b", 5), ("b", "cash", 5)))
        position = Position(("a", "b"), (1, -1))
        self.same(cover(position, table).amount, 6)
        table = table & Table(("a", "b"), (("b", "a", 2), ("a", "b", 2), ("cash", "a", 9), ("a", "cash", 9)))
        position = Position(("a", "b"), (2, -1))
        best = cover(position, table)
        self.same((best.amount, cover_fault(position, table, best)), (3, None))
        self.same(cover_fault(position, table, Cover(4, best.pairs, best.move)), "cost")

    def test_a_pairing_that_is_not_the_cheapest(self):
        table = Table(("a", "b", "c"), (
            ("cash", "a", 0), ("a", "cash", 9), ("cash", "b", 9), ("b", "cash", 9), ("c", "a", 9), ("c", "b", 0),
            ("a", "c", 9), ("b", "c", 9), ("c", "cash", 9), ("cash", "c", 9)))
        position = Position(("a", "b", "c"), (1, 1, -1))
        best = cover(position, table)
        self.same(best.amount, 0)
        dear = (("a", "c", 1), ("b", "cash", 1))
        cost = table["c", "a"] + table["cash", "b"]
        for move in moves_within(table):
            self.same(cover_fault(position, table, Cover(cost, dear, move)), "loss")

    def test_other_goods(self):
        for goods in OTHERS:
            self.fails(OtherGoods, (), cover_fault, POSITION, Table.full(goods, 1), Cover(None, None, None))


if __name__ == "__main__":
    unittest.main()
