"""[11.1] to [11.3] and the interface of coveredday.tabletext."""

import random
import unittest

from coveredday.errors import BadTable, BadText, OpenTable
from coveredday.tables import Table
from coveredday.tabletext import read_table, table_lines, table_text
from tests.common import THINGS, Promises, random_rows

GOODS = ("oil", "rye")
ROWS = (("oil", "cash", 3), ("cash", "oil", 2), ("oil", "rye", 1), ("rye", "oil", 1), ("rye", "cash", 9))
TEXT = "goods oil rye\noil over cash 3\ncash over oil 2\noil over rye 1\nrye over oil 1\nrye over cash 9"
LONGEST = "9" * 30


class TestTexts(Promises):
    def test_a_text(self):
        self.same(table_text(Table(GOODS, ROWS)), TEXT)
        found = read_table(TEXT)
        self.same((type(found), found.goods, found.rows), (Table, GOODS, ROWS))

    def test_texts_read_back(self):
        chance = random.Random(211)
        for _ in range(150):
            goods = ("a", "oil", "twelveletter", "b", "over")[:chance.randint(1, 5)]
            table = Table(goods, random_rows(chance, goods, (0, 1, 9, 10, 10 ** 12, 10 ** 29, int(LONGEST))), cap=10 ** 30)
            text = table_text(table)
            self.same((read_table(text).goods, read_table(text).rows, table_text(read_table(text))), (goods, table.rows, text))
            self.assertTrue(read_table(text) == table)
            lines = text.split("\n")
            self.same([line.split(" ") for line in lines], [["goods"] + list(goods)] + [
                [up, "over", down, str(most)] for up, down, most in table.rows])

    def test_400_lines(self):
        lines = TEXT.split("\n")
        self.fails(BadText, (7, "double"), read_table, "\n".join(lines + [lines[1]] * 394))
        self.fails(BadText, (400, "row"), read_table, "\n".join(lines + [lines[1]] * 393 + ["x"]))


class TestErrors(Promises):
    def caused(self, line, what, text, cause):
        with self.assertRaises(BadText) as caught:
            read_table(text)
        self.same((caught.exception.line, caught.exception.what), (line, what))
        found = caught.exception.__cause__
        self.same((type(found),) + tuple(vars(found).values()), cause)

    def test_no_text(self):
        for thing in THINGS:
            if type(thing) is not str:
                self.fails(BadText, (0, "text"), read_table, thing)
            else:
                self.fails(BadText, (1, "goods"), read_table, thing)
                self.fails(BadText, (1, "goods"), read_table, thing + "\nx")

    def test_goods(self):
        for line in ("", "goods", "goods ", " goods oil", "goods  oil", "goods oil ", "goods oil oil", "goods cash", "goods Oil", "good oil", "Goods oil",
                     "goods a b c d e f", "goods\toil", "oil goods", "goods oil\r", "goods thirteenlette"):
            self.fails(BadText, (1, "goods"), read_table, line + "\nx y z")

    def test_rows(self):
        for line in ("", " ", "oil over cash", "oil over cash 3 ", "oil  over cash 3", " oil over cash 3", "oil under cash 3", "over oil cash 3", "oil over cash 3 4",
                     "oil Over cash 3", "oil over  cash 3"):
            self.fails(BadText, (3, "row"), read_table, "goods oil rye\noil over oil 1\n" + line + "\noil over cash x")
        for text, line in ((TEXT + "\n", 7), (TEXT + "\n\n", 7), ("goods oil\n", 2), ("goods oil\r\noil over cash 1", 1)):
            self.fails(BadText, (line, "goods" if line == 1 else "row"), read_table, text)

    def test_numbers(self):
        for word in ("", "x", "-1", "+1", "1.0", "01", "00", "0x1", "1,000", "1_0", "\u0663", "\u00b2", "1\t", "1" * 31, "0" + LONGEST, "0" * 30, " 1"):
            word_count = len(("oil over cash " + word).split(" "))
            what = "most" if word_count == 4 else "row"
            self.fails(BadText, (3, what), read_table, "goods oil rye\nx over y 1\noil over cash " + word + "\nz")
        for word in ("0", "1", "10", "907", LONGEST, "1" + "0" * 29):
            found = read_table("goods oil\ncash over oil 0\noil over cash " + word)
            self.same(found.rows, (("cash", "oil", 0), ("oil", "cash", int(word))))

    def test_words_of_tables(self):
        begin = "goods oil rye\noil over cash 3\n"
        for line, what in (("x over oil 1", "up"), (" over oil 1", "up"), ("over over over 1", "up"), ("oil over x 1", "down"), ("oil over  1", "down"),
                           ("oil over oil 1", "same"), ("cash over cash 0", "same"), ("oil over cash 3", "double"), ("oil over cash 4", "double")):
            self.caused(3, what, begin + line + "\nx over x 1\noil over oil 1", (BadTable, 1, what))
        self.caused(2, "up", "goods oil\nrye over oil 1", (BadTable, 0, "up"))
        self.fails(BadText, (4, "row"), read_table, begin + "x over x 1\nx over x")
        self.fails(BadText, (4, "most"), read_table, begin + "x over x 1\nx over x x")

    def test_open_tables(self):
        for rows, pair in (((), ("cash", "oil")), (("cash over oil 1",), ("cash", "rye")), (("cash over oil 1", "oil over rye 1"), ("oil", "cash"))):
            self.caused(1, "open", "\n".join(("goods oil rye",) + rows), (OpenTable,) + pair)
        self.caused(3, "same", "goods oil rye\ncash over oil 1\noil over oil 1", (BadTable, 1, "same"))


class TestColumns(Promises):
    def test_a_table(self):
        table = Table(GOODS, [("oil", "cash", 1500), ("cash", "oil", 2), ("oil", "rye", 10 ** 6), ("rye", "oil", 0), ("rye", "cash", 7)])
        self.same(table_lines(table), (
            "                          cash               oil               rye",
            "cash                         -                 2         1,000,002",
            "oil                      1,500                 -         1,000,000",
            "rye                          7                 0                 -"))
        self.same([table["rye", "cash"], table["cash", "rye"]], [7, 1000002])

    def test_long_names_and_numbers(self):
        name = "twelveletter"
        for most, word in ((10 ** 12, "1,000,000,000,000"), (10 ** 13, "10,000,000,000,000"), (10 ** 14, "100,000,000,000,000"), (999, "999")):
            table = Table.full((name,), most, cap=most)
            self.same(table_lines(table), (
                " " * 12 + "cash".rjust(18) + name.rjust(18), "cash        " + "-".rjust(18) + word.rjust(18), name + word.rjust(18) + "-".rjust(18)))
        self.same(len(table_lines(Table.full((name,), 10 ** 14, cap=10 ** 14))[1]), 12 + 18 + 19)
        self.same(len(table_lines(Table.full((name,), 10 ** 20, cap=10 ** 20))[1]), 12 + 18 + 27)

    def test_random_tables(self):
        chance = random.Random(212)
        for _ in range(50):
            goods = ("a", "oil", "twelveletter", "b", "over")[:chance.randint(1, 5)]
            table = Table(goods, random_rows(chance, goods, (0, 12, 999, 1000, 10 ** 9, 10 ** 12)))
            known = ("cash",) + goods
            first, *lines = table_lines(table)
            self.same((first.split(), len(first), first[:12]), (list(known), 12 + 18 * len(known), " " * 12))
            self.same([len(line) for line in lines], [12 + 18 * len(known)] * len(known))
            for up, line in zip(known, lines):
                self.same((line[:12].rstrip(" "), line.split()[0]), (up, up))
                numbers = [None if word == "-" else int(word.replace(",", "")) for word in line[12:].split()]
                self.same(numbers, [None if up == down else table[up, down] for down in known])


if __name__ == "__main__":
    unittest.main()
