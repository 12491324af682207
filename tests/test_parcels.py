"""[2.4], [2.5], [2.6] and the interface of coveredday.parcels."""

import unittest

from coveredday.errors import BadGoods, BadParcels, BadPrices, NoThing
from coveredday.parcels import Parcels
from coveredday.position import Position
from tests.common import THINGS, Promises
from tests.test_names import goods_word

GOODS = ("oil", "rye")
ROWS = (("mix", (("oil", 2), ("rye", -1))), ("crate", (("rye", 3), ("mix", -2))), ("pile", (("crate", 1000),)))


def fault(rows, goods=GOODS):
    """The pair (index, word) of the error for these rows, or None."""
    try:
        Parcels(goods, rows)
    except BadParcels as caught:
        return caught.index, caught.what
    return None


def content_fault(contents):
    """The word for contents in a second row, behind a right first one."""
    told = fault([ROWS[0], ["crate", contents]])
    assert told is None or told[0] == 1
    return told and told[1]


class TestMaking(Promises):
    def test_attributes_are_tuples_throughout_and_no_list_is_kept(self):
        goods, rows = ["oil", "rye"], [["mix", [["oil", 2], ["rye", -1]]]]
        parcels = Parcels(goods, rows)
        self.same((goods, rows), (["oil", "rye"], [["mix", [["oil", 2], ["rye", -1]]]]))
        goods.append("tin")
        rows[0][1][0][1] = 9
        rows.append(["more", [["oil", 1]]])
        self.same((parcels.goods, parcels.rows), (GOODS, ROWS[:1]))
        self.same(parcels.things, ("oil", "rye", "mix"))

    def test_without_rows(self):
        for parcels in (Parcels(GOODS), Parcels(GOODS, []), Parcels(GOODS, rows=())):
            self.same((parcels.rows, parcels.things), ((), GOODS))

    def test_wrong_goods_come_first(self):
        for thing in THINGS:
            if goods_word(thing) is not None:
                self.fails(BadGoods, (goods_word(thing),), Parcels, thing, None)

    def test_wrong_rows(self):
        for thing in THINGS:
            if not isinstance(thing, (list, tuple)):
                self.fails(BadParcels, (None, "rows"), Parcels, GOODS, thing)
        six = [(name, (("oil", 1),)) for name in ("a", "b", "c", "d", "e", "f")]
        self.same(Parcels(GOODS, six).things, ("oil", "rye", "a", "b", "c", "d", "e", "f"))
        self.fails(BadParcels, (None, "rows"), Parcels, GOODS, six + [("g", (("oil", 1),))])
        self.fails(BadParcels, (None, "rows"), Parcels, GOODS, [None] * 7)

    def test_word_row(self):
        for thing in THINGS:
            expected = "name" if isinstance(thing, (list, tuple)) and len(thing) == 2 else "row"
            if thing not in (["oil", "rye"], ("oil", "oil"), ("oil", 1)):
                self.assertEqual(fault([thing]), (0, expected))
        self.assertEqual(fault([("a", (("oil", 1),), None)]), (0, "row"))
        self.assertEqual(fault([("a",)]), (0, "row"))

    def test_word_name(self):
        for thing in THINGS:
            if thing not in ("a", "oil", "rye", "twelveletter", "buy", "sell"):
                self.assertEqual(fault([(thing, None)]), (0, "name"))
        self.assertEqual(fault([("cash", (("oil", 1),))]), (0, "name"))
        self.assertIsNone(fault([("twelveletter", (("oil", 1),))]))

    def test_word_double(self):
        self.assertEqual(fault([("rye", None)]), (0, "double"))
        self.assertEqual(fault([ROWS[0], ("mix", None)]), (1, "double"))
        self.assertEqual(fault([ROWS[0], ("crate", (("oil", 1),)), ("mix", (("oil", 1),))]), (2, "double"))

    def test_word_contents(self):
        for thing in THINGS:
            if not isinstance(thing, (list, tuple)) or not thing:
                self.assertEqual(content_fault(thing), "contents")
        five = [("a", 1), ("b", 1), ("c", 1), ("d", 1), ("e", 1)]
        self.assertEqual(fault([("mix", five)], ["a", "b", "c", "d", "e"]), (0, "contents"))
        self.assertIsNone(fault([("mix", five[:4])], ["a", "b", "c", "d", "e"]))
        self.assertEqual(content_fault([None] * 5), "contents")

    def test_word_thing(self):
        for thing in THINGS:
            if thing not in (("oil", 1), ("oil", "oil"), ["oil", "rye"]):
                self.assertEqual(content_fault([thing]), "thing")
                self.assertEqual(content_fault([("rye", 1), thing]), "thing")
            if thing not in ("oil", "rye"):
                self.assertEqual(content_fault([(thing, None)]), "thing")
        self.assertEqual(content_fault([("oil", 1), ("rye", 2), ["oil", 3]]), "thing")
        self.assertEqual(content_fault([("crate", 1)]), "thing")
        self.assertEqual(content_fault([("oil", 1, 1)]), "thing")
        self.assertEqual(fault([("a", (("b", 1),)), ("b", (("oil", 1),))]), (0, "thing"))
        self.assertIsNone(content_fault([("mix", 1)]))

    def test_word_count(self):
        for thing in THINGS + (-1000, -1001, 1001):
            right = type(thing) is int and -1000 <= thing <= 1000 and thing != 0
            self.assertEqual(content_fault([("oil", thing)]), None if right else "count")
            self.assertEqual(content_fault([("mix", 1), ["rye", thing]]), None if right else "count")

    def test_word_flat(self):
        self.assertEqual(content_fault([("mix", 1), ("oil", -2), ("rye", 1)]), "flat")
        self.assertEqual(content_fault([("rye", -3), ("mix", -3), ("oil", 6)]), "flat")
        self.assertIsNone(content_fault([("mix", 1), ("oil", -2)]))
        two = [("up", (("oil", 1),)), ("down", (("oil", -1),)), ("none", (("up", 5), ("down", 5)))]
        self.assertEqual(fault(two), (2, "flat"))

    def test_the_first_word_of_the_first_wrong_row(self):
        self.assertEqual(content_fault([("oil", 0), ("gold", 0)]), "thing")
        self.assertEqual(content_fault([("oil", 0), ("oil", 1)]), "thing")
        self.assertEqual(content_fault([("oil", None), None]), "thing")
        self.assertEqual(content_fault([("mix", 1), ("oil", -2), ("rye", 0)]), "count")
        self.assertEqual(fault([("cash", 1, 2)]), (0, "row"))
        self.assertEqual(fault([("Oil", ()), None]), (0, "name"))
        self.assertEqual(fault([("oil", ())]), (0, "double"))
        self.assertEqual(fault([ROWS[0], ("crate", (("oil", 0),)), None]), (1, "count"))
        self.assertEqual(fault([ROWS[0], None, ("oil", ())]), (1, "row"))

    def test_equal_if_goods_and_rows_are(self):
        parcels = Parcels(GOODS, ROWS)
        self.assertTrue(parcels == Parcels(list(GOODS), [[name, list(contents)] for name, contents in ROWS]))
        self.assertFalse(parcels != Parcels(GOODS, ROWS))
        for other in (Parcels(GOODS, ROWS[:2]), Parcels(("rye", "oil"), ROWS), Parcels(GOODS + ("tin",), ROWS),
                      ROWS, None, Parcels(GOODS, (("mix", (("rye", -1), ("oil", 2))),) + ROWS[1:])):
            self.assertFalse(parcels == other)
        self.assertFalse(Parcels(GOODS) == Position.flat(GOODS))


class TestAsking(Promises):
    def setUp(self):
        self.parcels = Parcels(GOODS, ROWS)

    def test_things_and_contents(self):
        self.same(self.parcels.things, ("oil", "rye", "mix", "crate", "pile"))
        for name, contents in ROWS:
            self.same(self.parcels.contents(name), contents)
        for thing in THINGS + ("tin",):
            self.fails(NoThing, (thing,), self.parcels.contents, thing)

    def test_apart(self):
        aparts = {"oil": (1, 0), "rye": (0, 1), "mix": (2, -1), "crate": (-4, 5), "pile": (-4000, 5000)}
        for thing, counts in aparts.items():
            position = self.parcels.apart(thing)
            self.assertTrue(position == Position(GOODS, counts))
            for count in (-3, 0, 1, 10 ** 40):
                right = Position(GOODS, (counts[0] * count, counts[1] * count))
                self.assertTrue(self.parcels.apart(thing, count) == right)
                self.assertTrue(self.parcels.apart(thing, count=count) == right)
        for thing in THINGS:
            if thing not in ("oil", "rye"):
                self.fails(NoThing, (thing,), self.parcels.apart, thing)
                self.fails(NoThing, (thing,), self.parcels.apart, thing, 2)

    def test_worth(self):
        for thing, worth in (("oil", 7), ("rye", 10), ("mix", 4), ("crate", 22), ("pile", 22000)):
            self.same((self.parcels.worth(thing, (7, 10)), self.parcels.worth(thing, [7, 10])), (worth, worth))
        for thing in THINGS:
            if thing not in ("oil", "rye"):
                self.fails(NoThing, (thing,), self.parcels.worth, thing, None)
            if thing != (1, 2):
                self.fails(BadPrices, (), self.parcels.worth, "mix", thing)
                self.fails(BadPrices, (), self.parcels.worth, "oil", thing)


if __name__ == "__main__":
    unittest.main()
