"""[2.1], [2.2], [2.3] and the interface of coveredday.position."""

import unittest
from itertools import product

from coveredday.errors import BadGoods, BadPosition, BadPrices, NoAsset, OtherGoods
from coveredday.position import Position
from tests.common import THINGS, Promises, word_of
from tests.test_names import goods_word

GOODS = ("oil", "rye", "tin")
HUGE = 10 ** 40


def is_number_row(thing, length):
    """Whether thing is a tuple or list of so many whole numbers, worked out anew."""
    return isinstance(thing, (list, tuple)) and [type(number) for number in thing] == [int] * length


class TestMaking(Promises):
    def test_attributes_are_tuples_and_no_list_is_kept(self):
        goods, counts = ["oil", "rye", "tin"], [2, -1, 0]
        position = Position(goods, counts)
        goods[0], counts[0] = "gold", 9
        self.same((position.goods, position.counts), (("oil", "rye", "tin"), (2, -1, 0)))
        self.same((goods, counts), (["gold", "rye", "tin"], [9, -1, 0]))

    def test_counts_of_any_size(self):
        self.same(Position(GOODS, (HUGE, -HUGE, 10 ** 18 + 1)).counts, (HUGE, -HUGE, 10 ** 18 + 1))

    def test_wrong_goods_come_first(self):
        for thing in THINGS:
            word = goods_word(thing)
            if word is not None:
                self.fails(BadGoods, (word,), Position, thing, None)
                self.fails(BadGoods, (word,), Position.flat, thing)
                self.fails(BadGoods, (word,), Position.single, thing, None, None)

    def test_wrong_counts(self):
        for thing in THINGS:
            if not isinstance(thing, (list, tuple)) or len(thing) != 3:
                self.fails(BadPosition, ("counts",), Position, GOODS, thing)
            for index in range(3):
                counts = [1, 2, 3]
                counts[index] = thing
                expected = None if type(thing) is int else "count"
                self.assertEqual(word_of(BadPosition, Position, GOODS, counts), expected)
                self.assertEqual(word_of(BadPosition, Position, GOODS, tuple(counts)), expected)
        self.fails(BadPosition, ("counts",), Position, GOODS, [True, None])
        self.fails(BadPosition, ("counts",), Position, GOODS, {0: 1, 1: 2, 2: 3})

    def test_flat(self):
        for count in range(1, 6):
            goods = ["a", "b", "c", "d", "e"][:count]
            flat = Position.flat(goods)
            self.same((flat.goods, flat.counts, flat.is_flat), (tuple(goods), (0,) * count, True))

    def test_is_flat(self):
        for counts in product((-1, 0, 1), repeat=3):
            self.same(Position(GOODS, counts).is_flat, counts == (0, 0, 0))

    def test_single(self):
        self.same(Position.single(GOODS, "rye").counts, (0, 1, 0))
        self.same(Position.single(list(GOODS), "tin", -HUGE).counts, (0, 0, -HUGE))
        self.same(Position.single(GOODS, "oil", count=0).counts, (0, 0, 0))
        for thing in THINGS:
            if thing not in ("oil", "rye"):
                self.fails(NoAsset, (thing,), Position.single, GOODS, thing)
                self.fails(NoAsset, (thing,), Position.single, GOODS, thing, None)
            if type(thing) is not int:
                self.fails(BadPosition, ("count",), Position.single, GOODS, "oil", thing)


class TestAsking(Promises):
    def test_counts_and_the_balance(self):
        position = Position(GOODS, (2, -7, HUGE))
        self.same([position[asset] for asset in ("cash",) + GOODS], [5 - HUGE, 2, -7, HUGE])
        for counts in product((-2, 0, 1), repeat=3):
            position = Position(GOODS, counts)
            self.same(sum(position[asset] for asset in ("cash",) + GOODS), 0)

    def test_no_asset(self):
        position = Position(GOODS, (2, -7, 1))
        for thing in THINGS:
            if thing not in ("cash", "oil", "rye"):
                self.fails(NoAsset, (thing,), position.__getitem__, thing)
        with self.assertRaises(NoAsset) as caught:
            position[[]]
        self.same(caught.exception.name, [])

    def test_iteration_gives_all_goods_in_order(self):
        position = Position(("rye", "oil", "tin"), (0, -2, 5))
        self.same(list(position), [("rye", 0), ("oil", -2), ("tin", 5)])
        self.same(list(position), [("rye", 0), ("oil", -2), ("tin", 5)])

    def test_worth_and_loss(self):
        for counts, numbers in product(product((-2, 0, 3), repeat=2), product((-5, 0, 7, 10 ** 30), repeat=2)):
            position = Position(("oil", "rye"), counts)
            worth = counts[0] * numbers[0] + counts[1] * numbers[1]
            self.same((position.worth(numbers), position.loss(numbers)), (worth, -worth))
            self.same((position.worth(list(numbers)), position.loss(list(numbers))), (worth, -worth))

    def test_wrong_prices(self):
        position = Position(GOODS, (2, -7, 1))
        for call in (position.worth, position.loss):
            for thing in THINGS:
                if not is_number_row(thing, 3):
                    self.fails(BadPrices, (), call, thing)
                for index in range(3):
                    prices = [1, 2, 3]
                    prices[index] = thing
                    if type(thing) is not int:
                        self.fails(BadPrices, (), call, prices)
            self.fails(BadPrices, (), call, (1, 2))
            self.fails(BadPrices, (), call, (1, 2, 3, 4))


class TestSums(Promises):
    def test_sums_and_differences(self):
        one, other = Position(GOODS, [2, -7, HUGE]), Position(list(GOODS), (1, 1, HUGE))
        self.same(((one + other).counts, (one - other).counts), ((3, -6, 2 * HUGE), (1, -8, 0)))
        self.same(((-one).counts, (one * 3).counts, (one * 0).counts, (one * -1).counts),
                  ((-2, 7, -HUGE), (6, -21, 3 * HUGE), (0, 0, 0), (-2, 7, -HUGE)))
        self.same(((one + other).goods, (-one).goods, (one * 2).goods), (GOODS, GOODS, GOODS))
        self.same((one.counts, other.counts), ((2, -7, HUGE), (1, 1, HUGE)))

    def test_other_goods(self):
        one = Position(("oil", "rye"), (1, 2))
        for goods in (("rye", "oil"), ("oil",), ("oil", "rye", "tin"), ("oil", "tin")):
            other = Position.flat(goods)
            for call in (one.__add__, one.__sub__):
                self.fails(OtherGoods, (), call, other)
        self.same(one.counts, (1, 2))

    def test_equal_if_goods_and_counts_are(self):
        one = Position(("oil", "rye"), (1, 2))
        self.assertTrue(one == Position(["oil", "rye"], [1, 2]))
        self.assertFalse(one != Position(["oil", "rye"], [1, 2]))
        for other in (Position(("rye", "oil"), (1, 2)), Position(("oil", "rye"), (2, 1)), Position(("oil",), (1,)),
                      (1, 2), (("oil", 1), ("rye", 2)), None, 0):
            self.assertFalse(one == other)
        self.assertTrue(Position.flat(("a",)) == Position.single(("a",), "a", 0))


if __name__ == "__main__":
    unittest.main()
