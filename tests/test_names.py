"""[0.2], [0.3], [1.1], [1.2], [1.3] and the interface of coveredday.names."""

import re
import unittest
from itertools import product

from coveredday import names
from coveredday.errors import BadGoods
from coveredday.names import assets, checked_goods, is_name, is_whole
from tests.common import THINGS, Promises, word_of


def goods_word(goods):
    """The word of [1.3], worked out anew."""
    def is_right(thing):
        return isinstance(thing, str) and re.fullmatch("[a-z]{1,12}", thing) is not None

    if not isinstance(goods, (list, tuple)) or len(goods) not in (1, 2, 3, 4, 5):
        return "goods"
    if [thing for thing in goods if not is_right(thing)]:
        return "name"
    if [thing for thing in goods if thing == "cash"]:
        return "cash"
    if [thing for thing in goods if goods.count(thing) > 1]:
        return "double"
    return None


class TestNumbers(Promises):
    def test_constants(self):
        self.same((names.MOST, names.MOST_COUNT, names.MOST_CASH), (10 ** 12, 10 ** 6, 10 ** 18))

    def test_both_ends_of_the_range_and_beyond(self):
        for low, high in ((-3, 5), (0, 0), (1, 10 ** 6), (-10 ** 12, 10 ** 12), (-10 ** 40, 10 ** 40)):
            self.same([is_whole(thing, low, high) for thing in (low - 1, low, high, high + 1)],
                      [False, True, True, False])
        self.same(is_whole(0, -1, 1), True)

    def test_an_empty_range_has_no_number(self):
        self.same([is_whole(thing, 1, 0) for thing in (0, 1)], [False, False])

    def test_true_and_false_are_no_numbers(self):
        self.same([is_whole(thing, -5, 5) for thing in (True, False, 1, 0)], [False, False, True, True])

    def test_other_objects_are_no_numbers(self):
        for thing in THINGS:
            right = type(thing) is int and -1000 <= thing <= 1000
            self.same(is_whole(thing, -1000, 1000), right)


class TestNames(Promises):
    def test_one_to_twelve_letters(self):
        for count in range(20):
            self.same(is_name("z" * count), 1 <= count <= 12)

    def test_only_letters_from_a_to_z(self):
        for code in list(range(0, 1200)) + [0x3b1, 0x4e00, 0xff41, 0x1d41a]:
            right = "a" <= chr(code) <= "z"
            for name in (chr(code), "a" + chr(code), chr(code) + "z", "ab" + chr(code) + "c"):
                self.same(is_name(name), right)

    def test_cash_is_a_name(self):
        self.same(is_name("cash"), True)

    def test_other_objects_are_no_names(self):
        for thing in THINGS:
            self.same(is_name(thing), isinstance(thing, str) and re.fullmatch("[a-z]{1,12}", thing) is not None)


class TestGoods(Promises):
    def test_goods_are_returned_as_a_new_tuple_in_their_order(self):
        for count in range(1, 6):
            given = ["rye", "oil", "a", "twelveletter", "cashs"][:count]
            self.same(checked_goods(given), tuple(given))
            self.same(checked_goods(tuple(given)), tuple(given))

    def test_assets_are_cash_and_then_the_goods(self):
        self.same(assets(["rye", "oil"]), ("cash", "rye", "oil"))
        self.same(assets(("a", "b", "c", "d", "e")), ("cash", "a", "b", "c", "d", "e"))

    def test_each_word_alone(self):
        for call in (checked_goods, assets):
            self.fails(BadGoods, ("goods",), call, [])
            self.fails(BadGoods, ("goods",), call, ())
            self.fails(BadGoods, ("goods",), call, "oil")
            self.fails(BadGoods, ("goods",), call, ("a", "b", "c", "d", "e", "f"))
            self.fails(BadGoods, ("name",), call, ["oil", "Rye"])
            self.fails(BadGoods, ("name",), call, [True])
            self.fails(BadGoods, ("cash",), call, ["oil", "cash"])
            self.fails(BadGoods, ("double",), call, ("oil", "rye", "oil"))

    def test_the_first_word_comes_first(self):
        self.fails(BadGoods, ("goods",), checked_goods, ["cash", "cash", "Rye", "a", "a", "b"])
        self.fails(BadGoods, ("name",), checked_goods, ["cash", "cash", "a", "a", 1])
        self.fails(BadGoods, ("cash",), checked_goods, ("a", "a", "cash"))
        self.fails(BadGoods, ("cash",), checked_goods, ("cash", "cash"))
        self.fails(BadGoods, ("name",), checked_goods, ([], []))

    def test_any_object(self):
        for call in (checked_goods, assets):
            for thing in THINGS:
                self.assertEqual(word_of(BadGoods, call, thing), goods_word(thing))
            for kind, pair in product((list, tuple), product(THINGS, repeat=2)):
                self.assertEqual(word_of(BadGoods, call, kind(pair)), goods_word(kind(pair)))

    def test_what_was_passed_in_stays_and_is_not_kept(self):
        given = ["oil", "rye"]
        told = checked_goods(given)
        known = assets(given)
        self.assertEqual(given, ["oil", "rye"])
        given.append("tin")
        self.same((told, known), (("oil", "rye"), ("cash", "oil", "rye")))


if __name__ == "__main__":
    unittest.main()
