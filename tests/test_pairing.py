"""[4.2], [4.3], [4.4] and the interface of coveredday.pairing and coveredday.worstmove."""

import random
import unittest
from itertools import permutations, product

from coveredday.errors import NoAsset, OtherGoods
from coveredday.moves import fits
from coveredday.pairing import cost_of, pairing
from coveredday.position import Position
from coveredday.tables import Table
from coveredday.worstmove import worst_move
from tests.common import THINGS, Promises, moves_within
from tests.test_tables import GOODS, example, random_table

HUGE = 10 ** 40
OTHERS = (("rye", "oil"), ("oil",), ("oil", "rye", "tin"))


def least_cost(position, table):
    """The least cost of all pairings, each piece set against each one."""
    known = ("cash",) + position.goods
    longs = [asset for asset in known for _ in range(position[asset])]
    shorts = [asset for asset in known for _ in range(-position[asset])]
    return min(sum(table[short, long] for long, short in zip(longs, order)) for order in set(permutations(shorts)))


def small_positions(count, most):
    """All positions of so many goods with at most so many pieces on a side."""
    goods = ("a", "b", "c", "d", "e")[:count]
    for counts in product(range(-most, most + 1), repeat=count):
        sizes = counts + (-sum(counts),)
        if sum(size for size in sizes if size > 0) <= most:
            yield Position(goods, counts)


def pairing_is_right(position, pairs):
    """Whether pairs are a pairing, in order and each pair once, worked out anew."""
    known = ("cash",) + position.goods
    left = {asset: position[asset] for asset in known}
    for long, short, count in pairs:
        if not (type(count) is int and count >= 1 and position[long] > 0 > position[short]):
            return False
        left[long] -= count
        left[short] += count
    places = [(known.index(long), known.index(short)) for long, short, _ in pairs]
    right_kinds = isinstance(pairs, tuple) and all(isinstance(entry, tuple) for entry in pairs)
    return right_kinds and not any(left.values()) and places == sorted(set(places))


def random_position(chance, goods, most):
    return Position(goods, [chance.choice((0, 1, chance.randint(-most, most))) for _ in goods])


class TestSmallOnes(Promises):
    def test_all_small_positions_against_all_pairings_and_all_moves(self):
        chance = random.Random(43)
        for count, most, tables in ((1, 4, 12), (2, 4, 12), (3, 3, 6), (4, 2, 3), (5, 2, 2)):
            for _ in range(tables):
                table = random_table(chance, count, (0, 0, 1, 1, 2, 3) if count < 4 else (0, 0, 1))
                moves = list(moves_within(table))
                for position in small_positions(count, most):
                    self.look(position, table, moves)

    def look(self, position, table, moves):
        """Looks at the pairing and the worst move of one position."""
        pairs, move = pairing(position, table), worst_move(position, table)
        self.assertTrue(pairing_is_right(position, pairs), (position.counts, pairs))
        least = least_cost(position, table)
        self.same((cost_of(pairs, table), max(position.loss(one) for one in moves)), (least, least))
        self.assertIn(move, moves)
        self.assertIsInstance(move, tuple)
        self.same(position.loss(move), least)


class TestGreatOnes(Promises):
    def test_counts_far_beyond_the_bounds(self):
        chance = random.Random(44)
        for number in range(300):
            table = random_table(chance, number % 5 + 1, (0, 0, 1, 3, 10 ** 12, HUGE))
            position = random_position(chance, table.goods, 10 ** chance.choice((2, 19, 40)))
            pairs, move = pairing(position, table), worst_move(position, table)
            self.assertTrue(pairing_is_right(position, pairs))
            self.assertTrue(fits(move, table))
            self.same(position.loss(move), cost_of(pairs, table))

    def test_the_same_pairs_with_all_counts_as_many_times(self):
        chance = random.Random(45)
        for number in range(60):
            table = random_table(chance, number % 5 + 1)
            position = random_position(chance, table.goods, 5)
            once = cost_of(pairing(position, table), table)
            for times in (0, 1, 3, HUGE):
                self.same(cost_of(pairing(position * times, table), table), once * times)


    def test_three_against_three(self):
        chance = random.Random(46)
        for _ in range(800):
            table = random_table(chance, 5, (0, 1, 2, 3, 5, 8, 13, 20))
            counts = chance.choice(((2, 1, 1, -1, -1), (3, -2, 2, -3, 3), (1, HUGE, 2 - HUGE, 1, -HUGE)))
            position = Position(table.goods, counts)
            pairs, move = pairing(position, table), worst_move(position, table)
            self.assertTrue(pairing_is_right(position, pairs) and fits(move, table))
            self.same(position.loss(move), cost_of(pairs, table))

    def test_a_pairing_for_which_two_dear_pairs_are_given_back_at_once(self):
        table = Table(("a", "b", "c", "d", "e"), (
            ("e", "a", 1), ("a", "d", 0), ("d", "e", 1), ("b", "c", 20), ("c", "e", 13), ("c", "a", 3),
            ("c", "cash", 20), ("b", "cash", 2), ("e", "d", 0), ("cash", "a", 2), ("a", "cash", 0), ("d", "b", 8),
            ("e", "c", 13), ("e", "cash", 8), ("cash", "c", 13), ("a", "b", 8), ("c", "b", 13), ("d", "c", 5),
            ("e", "b", 2), ("cash", "d", 20)))
        position = Position(table.goods, (2, 1, 1, -1, -1))
        pairs = pairing(position, table)
        self.assertTrue(pairing_is_right(position, pairs))
        least = least_cost(position, table)
        self.same((cost_of(pairs, table), position.loss(worst_move(position, table))), (least, least))


class TestPairing(Promises):
    def test_the_example(self):
        position = Position(GOODS, (2, -1))
        self.same(pairing(position, example()), (("oil", "cash", 1), ("oil", "rye", 1)))
        self.same(worst_move(position, example()), (-2, -1))

    def test_flat_positions(self):
        for count in range(1, 6):
            goods = ("a", "b", "c", "d", "e")[:count]
            table = Table.full(goods, 3)
            self.same(pairing(Position.flat(goods), table), ())
            self.assertTrue(fits(worst_move(Position.flat(goods), table), table))

    def test_the_order_of_pairs(self):
        goods = ("e", "d", "c", "b", "a")
        table = Table.full(goods, 1)
        self.same(pairing(Position(goods, (-1, 2, -1, -1, 2)), table)[0][0], "d")
        for counts in permutations((-2, 3, -1, 2, -1)):
            position = Position(goods, counts)
            self.assertTrue(pairing_is_right(position, pairing(position, table)))

    def test_a_dear_pair_is_given_back(self):
        table = Table(("a", "b", "c"), (
            ("cash", "a", 0), ("a", "cash", 10), ("cash", "b", 1), ("b", "cash", 10),
            ("c", "a", 1), ("a", "c", 10), ("c", "b", 100), ("b", "c", 10), ("c", "cash", 100), ("cash", "c", 100)))
        position = Position(("a", "b", "c"), (5, 5, -5))
        self.same(pairing(position, table), (("a", "c", 5), ("b", "cash", 5)))
        self.same(cost_of(pairing(position, table), table), 10)

    def test_other_goods(self):
        position = Position(GOODS, (1, -1))
        for goods in OTHERS:
            for call in (pairing, worst_move):
                self.fails(OtherGoods, (), call, position, Table.full(goods, 1))

    def test_no_answer_depends_on_what_was_asked_before(self):
        chance = random.Random(46)
        asked = []
        for number in range(30):
            table = random_table(chance, number % 5 + 1)
            position = random_position(chance, table.goods, 9)
            asked.append((position, table, repr((pairing(position, table), worst_move(position, table)))))
        for position, table, told in asked[::-1]:
            one, other = Position(position.goods, position.counts), Table(table.goods, table.rows)
            self.same((pairing(one, other), worst_move(one, other)), eval(told))
            self.same((pairing(position, table), worst_move(position, table)), eval(told))


class TestCostOf(Promises):
    def test_sums(self):
        table = example()
        self.same((cost_of((), table), cost_of([], table)), (0, 0))
        self.same(cost_of([["oil", "cash", 5]], table), 10)
        self.same(cost_of([("cash", "oil", 5)], table), 15)
        self.same(cost_of((("oil", "cash", 5), ("oil", "cash", 1), ("cash", "rye", HUGE)), table), 12 + 4 * HUGE)
        self.same(cost_of((("oil", "rye", 0), ("rye", "oil", -3)), table), -3)

    def test_the_same_asset_twice_costs_0(self):
        for asset in ("cash", "oil", "rye"):
            self.same(cost_of([(asset, asset, HUGE)], example()), 0)

    def test_no_asset_long_ahead_of_short(self):
        for thing in THINGS:
            if thing not in ("cash", "oil", "rye"):
                self.fails(NoAsset, (thing,), cost_of, [("oil", "rye", 1), (thing, "tin", 1)], example())
                self.fails(NoAsset, (thing,), cost_of, [("oil", thing, 1), ("tin", "oil", 1)], example())
                self.fails(NoAsset, (thing,), cost_of, ((thing, thing, 1),), example())

    def test_what_was_passed_in_stays(self):
        pairs = [["oil", "cash", 5], ["oil", "rye", 1]]
        cost_of(pairs, example())
        self.same(pairs, [["oil", "cash", 5], ["oil", "rye", 1]])


if __name__ == "__main__":
    unittest.main()
