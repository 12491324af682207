"""[1.6], [1.7], [1.8] and the interface of coveredday.orderbook."""

import random
import unittest

from coveredday.errors import NoOrder
from coveredday.orderbook import OrderBook
from coveredday.orders import Order
from tests.common import THINGS, Promises


def buy(member, count, limit, thing="oil"):
    return Order(member, thing, "buy", count, limit)


def sell(member, count, limit, thing="oil"):
    return Order(member, thing, "sell", count, limit)


def row(number, order):
    return number, order.member, order.thing, order.side, order.count, order.limit


def rows(pairs):
    """The pairs (number, order) as plain tuples."""
    assert isinstance(pairs, tuple)
    return [row(number, order) for number, order in pairs]


def shown(book):
    """All that a book answers, as plain values."""
    sides = [(thing, side) for thing in ("oil", "rye") for side in ("buy", "sell")]
    bests = [book.best(*side) for side in sides]
    return repr((
        [row(number, order) for number, order in book], len(book),
        [rows(book.open_of(member)) for member in ("ann", "bob", "cy")],
        [row(*best) if best else best for best in bests], [book.levels(*side) for side in sides],
    ))


class PieceBook:
    """A book that fills piece by piece, worked out anew: lists [number, order's parts, pieces left]."""

    def __init__(self):
        self.resting = []
        self.placed = 0

    def place(self, order):
        number, self.placed = self.placed, self.placed + 1
        fills, left = [], order.count
        while left:
            able = [held for held in self.resting if self.meet(order, held[1])]
            if not able:
                break
            able.sort(key=lambda held: (held[1].limit if order.side == "buy" else -held[1].limit, held[0]))
            best = able[0]
            best[2] -= 1
            left -= 1
            two = (order.member, best[1].member) if order.side == "buy" else (best[1].member, order.member)
            if fills and fills[-1][0] == best[0]:
                fills[-1][2] += 1
            else:
                fills.append([best[0], two, 1, best[1].limit])
            self.resting = [held for held in self.resting if held[2]]
        if left:
            self.resting.append([number, order, left])
        return number, tuple((*two, order.thing, count, price) for _, two, count, price in fills)

    def meet(self, one, other):
        if one.member == other.member or one.thing != other.thing or one.side == other.side:
            return False
        return (one.limit >= other.limit) if one.side == "buy" else (other.limit >= one.limit)

    def cancel(self, number):
        self.resting = [held for held in self.resting if held[0] != number]

    def rows(self):
        return [(number, o.member, o.thing, o.side, left, o.limit) for number, o, left in self.resting]


class TestPlacing(Promises):
    def test_an_empty_book(self):
        book = OrderBook()
        self.same((len(book), list(book), book.best("oil", "buy"), book.levels("oil", "sell")), (0, [], None, ()))
        self.same((book.open_of("ann"), book.cancel_all("ann"), book.would_fill(buy("a", 1, 1))), ((), (), ()))

    def test_numbers_count_from_0_also_of_orders_that_do_not_rest(self):
        book = OrderBook()
        self.same(book.place(sell("ann", 2, 5)), (0, ()))
        self.same(book.place(buy("bob", 2, 5)), (1, (("bob", "ann", "oil", 2, 5),)))
        self.same((len(book), list(book)), (0, []))
        self.same(book.place(buy("bob", 1, 5)), (2, ()))
        self.same([row(*pair) for pair in book], [(2, "bob", "oil", "buy", 1, 5)])

    def test_the_price_is_the_limit_of_the_resting_order(self):
        for first, second in ((buy("ann", 3, 9), sell("bob", 3, 4)), (sell("bob", 3, 4), buy("ann", 3, 9))):
            book = OrderBook()
            book.place(first)
            self.same(book.place(second), (1, (("ann", "bob", "oil", 3, first.limit),)))

    def test_the_best_comes_first_then_the_lower_number(self):
        book = OrderBook()
        for order in (sell("a", 1, 7), sell("b", 2, 5), sell("c", 3, 6), sell("d", 4, 5), sell("e", 1, 8)):
            book.place(order)
        fills = (("z", "b", "oil", 2, 5), ("z", "d", "oil", 4, 5), ("z", "c", "oil", 3, 6), ("z", "a", "oil", 1, 7))
        self.same(book.would_fill(buy("z", 20, 7)), fills)
        self.same(book.place(buy("z", 20, 7)), (5, fills))
        self.same([row(*pair) for pair in book], [(4, "e", "oil", "sell", 1, 8), (5, "z", "oil", "buy", 10, 7)])
        self.same(book.place(sell("y", 4, -3)), (6, (("z", "y", "oil", 4, 7),)))
        self.same(row(*book.best("oil", "buy")), (5, "z", "oil", "buy", 6, 7))

    def test_bids_are_best_at_the_highest_limit(self):
        book = OrderBook()
        for order in (buy("a", 1, -7), buy("b", 2, 5), buy("c", 3, 6), buy("d", 4, 6)):
            book.place(order)
        fills = (("c", "z", "oil", 3, 6), ("d", "z", "oil", 4, 6), ("b", "z", "oil", 1, 5))
        self.same(book.place(sell("z", 8, 0)), (4, fills))
        self.same(book.order(1).count, 1)

    def test_own_orders_are_passed_over_and_rest_on(self):
        book = OrderBook()
        for order in (sell("ann", 2, 3), sell("bob", 2, 4), sell("ann", 2, 5), sell("cy", 2, 6)):
            book.place(order)
        fills = (("ann", "bob", "oil", 2, 4), ("ann", "cy", "oil", 1, 6))
        self.same(book.place(buy("ann", 3, 6)), (4, fills))
        self.same([(number, order.count) for number, order in book], [(0, 2), (2, 2), (3, 1)])
        self.same(book.place(buy("ann", 3, 5)), (5, ()))
        self.same(book.levels("oil", "buy"), ((5, 3),))

    def test_other_things_do_not_meet(self):
        book = OrderBook()
        book.place(sell("ann", 2, 3, "rye"))
        self.same(book.place(buy("bob", 2, 3)), (1, ()))
        self.same(len(book), 2)

    def test_part_of_a_resting_order_is_taken(self):
        book = OrderBook()
        book.place(sell("ann", 10 ** 6, 3))
        self.same(book.place(buy("bob", 1, 3)), (1, (("bob", "ann", "oil", 1, 3),)))
        self.same(row(0, book.order(0)), (0, "ann", "oil", "sell", 10 ** 6 - 1, 3))

    def test_orders_that_were_passed_in_or_returned_stay(self):
        book, placed = OrderBook(), sell("ann", 5, 3)
        book.place(placed)
        held, best, mine = book.order(0), book.best("oil", "sell"), book.open_of("ann")
        book.place(buy("bob", 2, 3))
        self.same((placed.count, held.count, best[1].count, mine[0][1].count), (5, 5, 5, 5))
        self.same(book.order(0).count, 3)

    def test_would_fill_changes_nothing(self):
        book = OrderBook()
        book.place(sell("ann", 5, 3))
        before = shown(book)
        for _ in range(3):
            self.same(book.would_fill(buy("bob", 7, 4)), (("bob", "ann", "oil", 5, 3),))
            self.same(book.would_fill(buy("bob", 7, 2)), ())
        self.same(shown(book), before)
        self.same(book.place(buy("bob", 7, 4)), (1, (("bob", "ann", "oil", 5, 3),)))


class TestAsking(Promises):
    def setUp(self):
        self.book = OrderBook()
        for order in (buy("ann", 1, 5), buy("bob", 2, 7), buy("ann", 3, 5), buy("ann", 4, 7), sell("cy", 5, 9),
                      sell("ann", 6, 8, "rye"), sell("bob", 7, 8)):
            self.book.place(order)

    def test_order_and_its_errors(self):
        self.same(row(3, self.book.order(3)), (3, "ann", "oil", "buy", 4, 7))
        before = shown(self.book)
        for call in (self.book.order, self.book.cancel):
            for thing in THINGS + (7, -1, 10 ** 30, (0,), "0"):
                if not (type(thing) is int and 0 <= thing <= 6):
                    self.fails(NoOrder, (thing,), call, thing)
        self.same(shown(self.book), before)

    def test_cancel(self):
        self.same(row(2, self.book.cancel(2)), (2, "ann", "oil", "buy", 3, 5))
        self.same([number for number, _ in self.book], [0, 1, 3, 4, 5, 6])
        self.fails(NoOrder, (2,), self.book.cancel, 2)
        self.fails(NoOrder, (2,), self.book.order, 2)
        self.same(self.book.place(buy("cy", 1, 1)), (7, ()))

    def test_a_filled_order_is_gone(self):
        self.book.place(sell("cy", 2, 7))
        self.fails(NoOrder, (1,), self.book.order, 1)
        self.fails(NoOrder, (7,), self.book.order, 7)

    def test_cancel_returns_what_is_left(self):
        self.book.place(sell("cy", 3, 7))
        self.same(row(3, self.book.cancel(3)), (3, "ann", "oil", "buy", 3, 7))

    def test_cancel_all(self):
        self.same(self.book.cancel_all("ann"), (0, 2, 3, 5))
        self.same([number for number, _ in self.book], [1, 4, 6])
        self.same((self.book.cancel_all("ann"), self.book.cancel_all("zoe")), ((), ()))
        self.same(len(self.book), 3)

    def test_open_of(self):
        self.same(rows(self.book.open_of("bob")), [(1, "bob", "oil", "buy", 2, 7), (6, "bob", "oil", "sell", 7, 8)])
        self.same([number for number, _ in self.book.open_of("ann")], [0, 2, 3, 5])
        self.same(self.book.open_of("zoe"), ())

    def test_best(self):
        self.same(row(*self.book.best("oil", "buy")), (1, "bob", "oil", "buy", 2, 7))
        self.same(row(*self.book.best("oil", "sell")), (6, "bob", "oil", "sell", 7, 8))
        self.same(row(*self.book.best("rye", "sell")), (5, "ann", "rye", "sell", 6, 8))
        self.same((self.book.best("rye", "buy"), self.book.best("tin", "sell")), (None, None))

    def test_levels(self):
        self.same(self.book.levels("oil", "buy"), ((7, 6), (5, 4)))
        self.same(self.book.levels("oil", "sell"), ((8, 7), (9, 5)))
        self.same((self.book.levels("rye", "buy"), self.book.levels("rye", "sell")), ((), ((8, 6),)))

    def test_iteration_and_len(self):
        self.same([number for number, _ in self.book], [0, 1, 2, 3, 4, 5, 6])
        self.same(len(self.book), 7)
        for number, order in self.book:
            self.same((type(number), type(order)), (int, Order))
            self.assertTrue(self.book.order(number) == order)

    def test_a_book_may_be_changed_while_it_is_gone_through(self):
        for number, _ in self.book:
            self.book.cancel(number)
        self.same(len(self.book), 0)

    def test_copies_go_on_by_themselves(self):
        copy = self.book.copied()
        before = shown(self.book)
        self.same(shown(copy), before)
        self.same(copy.place(sell("zoe", 20, 1)), (7, (
            ("bob", "zoe", "oil", 2, 7), ("ann", "zoe", "oil", 4, 7), ("ann", "zoe", "oil", 1, 5),
            ("ann", "zoe", "oil", 3, 5))))
        copy.cancel_all("bob")
        self.same(shown(self.book), before)
        after = shown(copy)
        self.same(self.book.place(buy("zoe", 1, 1)), (7, ()))
        self.book.cancel(0)
        self.same(shown(copy), after)
        self.same(copy.place(buy("zoe", 1, 1)), (8, ()))

    def test_the_copy_of_a_filled_book_keeps_the_next_number(self):
        book = OrderBook()
        book.place(buy("a", 1, 1))
        book.place(sell("b", 1, 1))
        self.same(book.copied().place(buy("a", 1, 1)), (2, ()))


class TestAgainstPieces(Promises):
    def test_random_days(self):
        for seed in range(60):
            chance = random.Random(seed)
            book, pieces = OrderBook(), PieceBook()
            for _ in range(60):
                if chance.random() < 0.2 and len(book):
                    number = chance.choice([number for number, _ in book])
                    book.cancel(number)
                    pieces.cancel(number)
                    continue
                order = Order(chance.choice(("ann", "bob", "cy")), chance.choice(("oil", "rye")),
                              chance.choice(("buy", "sell")), chance.randint(1, 9), chance.randint(-3, 3))
                told = book.would_fill(order)
                number, fills = book.place(order)
                self.same((number, fills), pieces.place(order))
                self.same(told, fills)
                self.same([row(*pair) for pair in book], pieces.rows())

    def test_as_many_orders_as_a_book_may_have(self):
        book = OrderBook()
        for number in range(399):
            self.same(book.place(sell("ann", 1, number % 7)), (number, ()))
        number, fills = book.place(buy("bob", 10 ** 6, 6))
        self.same((number, len(fills), len(book)), (399, 399, 1))
        self.same(book.order(399).count, 10 ** 6 - 399)


if __name__ == "__main__":
    unittest.main()
