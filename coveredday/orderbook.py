"""The book in which orders rest and are filled."""

from coveredday.errors import NoOrder
from coveredday.names import is_integer
from coveredday.orders import meets


def _rank(row):
    """Of resting orders for one thing on one side the better one has the lesser rank."""
    number, order = row
    return -order.sign * order.limit, number


def _fill(placed, resting, count):
    """The fill of so many pieces, at the limit of the order that rested."""
    buyer, seller = (placed, resting) if placed.sign > 0 else (resting, placed)
    return buyer.member, seller.member, placed.thing, count, resting.limit


def _matched(rows, placed):
    """The fills of an order that is placed among resting rows (number, order); and a dict
    that tells for the number of each row that it takes from how many pieces it takes."""
    left = placed.count
    fills = []
    taken = {}
    for number, resting in sorted([(held, order) for held, order in rows if meets(order, placed)], key=_rank):
        count = min(left, resting.count)
        if count > 0:
            fills.append(_fill(placed, resting, count))
            taken[number] = count
            left -= count
    return tuple(fills), taken


def _less(rows, taken):
    """The rows (number, order) without the pieces taken; rows of no pieces left go."""
    kept = []
    for number, order in rows:
        if number not in taken:
            kept.append((number, order))
        elif taken[number] < order.count:
            kept.append((number, order.of_count(order.count - taken[number])))
    return tuple(kept)


class OrderBook:
    """A book: its resting orders as rows (number, order) by ascending numbers, and the next number."""

    def __init__(self):
        # A tuple is replaced as a whole, so that copies and iterations stay as they were.
        self._rows = ()
        self._next = 0

    def place(self, order):
        """Places the order: the pair of its number and the tuple of its fills."""
        number = self._next
        fills, taken = _matched(self._rows, order)
        rows = _less(self._rows, taken)
        left = order.count - sum([count for _, _, _, count, _ in fills])
        if left > 0:
            rows = rows + ((number, order.of_count(left)),)
        self._rows = rows
        self._next = number + 1
        return number, fills

    def would_fill(self, order):
        """The fills that place(order) would return now."""
        return _matched(self._rows, order)[0]

    def order(self, number):
        """The resting order with this number, any object."""
        if is_integer(number):
            for held, order in self._rows:
                if held == number:
                    return order
        raise NoOrder(number)

    def cancel(self, number):
        """Takes the order with this number, any object, out of the book and returns it."""
        order = self.order(number)
        self._rows = tuple([(held, kept) for held, kept in self._rows if held != number])
        return order

    def cancel_all(self, member):
        """Cancels all orders of the member; the tuple of their numbers."""
        numbers = tuple([number for number, _ in self.open_of(member)])
        self._rows = tuple([(number, order) for number, order in self._rows if order.member != member])
        return numbers

    def open_of(self, member):
        """The rows (number, order) of the member, by ascending numbers."""
        return tuple([(number, order) for number, order in self._rows if order.member == member])

    def best(self, thing, side):
        """The best row (number, order) for the thing on this side, or None."""
        rows = self._side(thing, side)
        return rows[0] if rows else None

    def levels(self, thing, side):
        """The pairs (limit, count) at which orders rest, the best limit first."""
        counts = {}
        for _, order in self._side(thing, side):
            counts[order.limit] = counts.get(order.limit, 0) + order.count
        return tuple(counts.items())

    def copied(self):
        """A new book that goes on by itself."""
        book = OrderBook()
        book._rows = self._rows
        book._next = self._next
        return book

    def _side(self, thing, side):
        """The rows (number, order) for the thing on this side, the best one first."""
        rows = [(number, order) for number, order in self._rows if order.thing == thing and order.side == side]
        return sorted(rows, key=_rank)

    def __iter__(self):
        return iter(self._rows)

    def __len__(self):
        return len(self._rows)
