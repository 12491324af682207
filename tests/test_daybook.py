"""[8.12], as far as the day book goes, and the interface of coveredday.daybook."""

import random
import unittest

from coveredday.daybook import DayBook
from coveredday.daymaker import day_of
from coveredday.verdict import verdict
from tests.common import THINGS, Promises
from tests.plans import busy_plan
from tests.smallhouse import played

ROWS = (
    ("entered", "gap"), ("entered", "till"), ("paid_in", "ann", 7), ("filled", "ann", "bob", "oil", 2, 11),
    ("filled", "bob", "cyd", "mix", 3, -4), ("paid_out", "ann", 4), ("traded", "cyd", "ann", "oil", 5, 10),
    ("marked", "ann", "notice"), ("marked", "bob", "look"), ("entered", "bar"), ("closed", "ann", 30, -6),
    ("paid", "ann", 6), ("closed", "bob", -8, 12))


class TestDayBook(Promises):
    def test_iteration_and_length(self):
        for count in range(len(ROWS) + 1):
            book = DayBook(ROWS[:count])
            self.same((tuple(book), len(book)), (ROWS[:count], count))
            self.same([row for row in book], list(ROWS[:count]))

    def test_happenings_are_kept_as_tuples(self):
        rows = [list(row) for row in ROWS]
        book = DayBook(rows)
        rows[0][1] = "bar"
        rows.pop()
        self.same(tuple(book), ROWS)

    def test_of(self):
        book = DayBook(ROWS)
        for word in ("entered", "marked", "filled", "traded", "paid_in", "paid_out", "closed", "paid", "other"):
            self.same(book.of(word), tuple(row for row in ROWS if row[0] == word))
        self.same(book.of("paid"), (("paid", "ann", 6),))
        self.same(DayBook(()).of("entered"), ())

    def test_since(self):
        book = DayBook(ROWS)
        for count in range(len(ROWS) + 3):
            self.same(book.since(count), ROWS[count:])
        self.same((book.since(10 ** 9), DayBook([]).since(0)), ((), ()))

    def test_cash_changes(self):
        book = DayBook(ROWS)
        self.same(book.cash_change("ann"), 7 - 22 - 4 + 50 + 30 + 6)
        self.same(book.cash_change("bob"), 22 + 12 - 8)
        self.same(book.cash_change("cyd"), -12 - 50)
        self.same(book.cash_change("dan"), 0)
        self.same(DayBook(()).cash_change("ann"), 0)

    def test_one_happening_each(self):
        for row, changes in (
                (("entered", "ann"), (0, 0)), (("marked", "ann", "look"), (0, 0)), (("paid_in", "ann", 10 ** 18), (10 ** 18, 0)),
                (("paid_out", "bob", 3), (0, -3)), (("filled", "bob", "ann", "ann", 2, 5), (10, -10)),
                (("traded", "ann", "bob", "oil", 2, -5), (10, -10)), (("closed", "ann", -7, 9), (-7, 0)),
                (("closed", "bob", 7, 9), (0, 7)), (("paid", "bob", 1), (0, 1)), (("filled", "cyd", "dan", "ann", 2, 5), (0, 0))):
            book = DayBook([row])
            self.same((book.cash_change("ann"), book.cash_change("bob")), changes)

    def test_nodes_and_things_that_are_called_like_members(self):
        book = DayBook([("entered", "ann"), ("marked", "bob", "look"), ("filled", "bob", "cyd", "ann", 4, 4)])
        self.same(book.cash_change("ann"), 0)
        self.same(book.cash_change("look"), 0)

    def test_equal_books(self):
        self.assertTrue(DayBook(ROWS) == DayBook([list(row) for row in ROWS]))
        self.assertFalse(DayBook(ROWS) == DayBook(ROWS[::-1]))
        self.assertFalse(DayBook(ROWS) == DayBook(ROWS[:-1]))
        for thing in THINGS + (ROWS, list(ROWS)):
            self.assertFalse(DayBook(ROWS) == thing)
        self.assertFalse(DayBook(()) == ())

    def test_days_that_are_played(self):
        chance = random.Random(101)
        days = 0
        while days < 40:
            plan = busy_plan(chance)
            breach = verdict(plan)
            if not breach.is_safe:
                day = day_of(plan, breach)
                house = played(plan, day)
                book = DayBook(house.happenings)
                for name, _, cash in day.members:
                    self.same(cash + book.cash_change(name), house.cash[name])
                self.same(sum(row[2] for row in book.of("paid")), breach.excess)
                days += 1


if __name__ == "__main__":
    unittest.main()
