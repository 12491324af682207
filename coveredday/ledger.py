"""The ledger of a house: all that changes while it plays a day, without a look at what is let."""

from coveredday.closing import close_out
from coveredday.holdings import Holdings
from coveredday.orderbook import OrderBook
from coveredday.position import Position


class Ledger:
    """What a house holds now: its node and the move with which it was entered, prices, members, orders, the street."""

    def __init__(self, parcels, prices, members):
        self._parcels = parcels
        self.node = None
        self.move = None
        self.true = tuple(prices)
        self.told = self.true
        self.cash = {name: cash for name, _, cash in members}
        self.held = {name: Holdings(parcels) for name, _, _ in members}
        self.marked = {name: False for name, _, _ in members}
        self.book = OrderBook()
        self.paid = 0
        self.street_sum = 0
        self.street_held = Position.flat(parcels.goods)
        self.happenings = ()

    def copied(self):
        """A new ledger that goes on by itself."""
        other = Ledger(self._parcels, self.true, ())
        other.node = self.node
        other.move = self.move
        other.told = self.told
        other.cash = dict(self.cash)
        other.held = {name: self.held[name].copied() for name in self.held}
        other.marked = dict(self.marked)
        other.book = self.book.copied()
        other.paid = self.paid
        other.street_sum = self.street_sum
        other.street_held = self.street_held
        other.happenings = self.happenings
        return other

    def write(self, happening):
        """Adds a happening."""
        self.happenings = self.happenings + (happening,)

    def go(self, node, move):
        """The node is entered, with a move or None."""
        self.write(("entered", node))
        self.node = node
        self.move = move
        if move is not None:
            self.true = tuple([price + change for price, change in zip(self.true, move)])

    def tell(self):
        """The true prices are told."""
        self.told = self.true

    def mark(self, member, why):
        """The member is marked and its orders are cancelled."""
        self.marked[member] = True
        self.book.cancel_all(member)
        self.write(("marked", member, why))

    def close(self, member):
        """The member is closed out: the street takes its position, and the house pays what is lacking."""
        position = self.held[member].position_now()
        closing = close_out(self.cash[member], position, self.true)
        self.cash[member] = closing.cash
        self.held[member].clear()
        self.marked[member] = False
        self.street_held = self.street_held + position
        self.street_sum = self.street_sum - closing.worth
        self.paid = self.paid + closing.paid
        self.write(("closed", member, closing.worth, closing.before))
        if closing.paid > 0:
            self.write(("paid", member, closing.paid))

    def place(self, order):
        """The order is placed, and its fills are made; its number."""
        number, fills = self.book.place(order)
        for fill in fills:
            self._exchange("filled", fill)
        return number

    def trade(self, buyer, seller, thing, count):
        """The members trade at the told worth of the thing."""
        price = self._parcels.worth(thing, self.told)
        self._exchange("traded", (buyer, seller, thing, count, price))

    def pay(self, word, member, amount, sign):
        """The member pays the amount in (sign 1) or out (sign -1)."""
        self.cash[member] = self.cash[member] + sign * amount
        self.write((word, member, amount))

    def _exchange(self, word, fill):
        """Cash for pieces, as a fill (buyer, seller, thing, count, price) tells."""
        buyer, seller, thing, count, price = fill
        self.cash[buyer] = self.cash[buyer] - count * price
        self.cash[seller] = self.cash[seller] + count * price
        self.held[buyer].put(thing, count)
        self.held[seller].put(thing, -count)
        self.write((word,) + fill)
