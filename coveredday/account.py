"""Accounts: cash, a position and open orders, and what fills make of them."""

from coveredday.errors import BadAccount, BadFill
from coveredday.names import is_integer, is_sequence, is_whole
from coveredday.orders import Order
from coveredday.parcels import Parcels
from coveredday.position import Position

MOST_ORDERS = 5


def orders_fault(orders, parcels):
    """What is wrong with these objects, however many, as the orders of one account, or None."""
    if not all([isinstance(order, Order) for order in orders]):
        return "orders"
    if any([order.member != orders[0].member for order in orders]):
        return "member"
    if any([order.thing not in parcels.things for order in orders]):
        return "thing"
    return None


def _check_fill(orders, taken):
    """Raises BadFill unless taken, any object, is a fill of the orders."""
    if not is_sequence(taken):
        raise BadFill(None)
    for index in range(max(len(taken), len(orders))):
        both = index < len(taken) and index < len(orders)
        if not both or not is_whole(taken[index], 0, orders[index].count):
            raise BadFill(index)


class Account:
    """What a member has; it never changes."""

    def __init__(self, cash, position, orders=(), *, parcels):
        if not isinstance(parcels, Parcels):
            raise BadAccount("parcels")
        if not is_integer(cash):
            raise BadAccount("cash")
        if not isinstance(position, Position) or position.goods != parcels.goods:
            raise BadAccount("position")
        if not is_sequence(orders) or len(orders) > MOST_ORDERS:
            raise BadAccount("orders")
        word = orders_fault(orders, parcels)
        if word is not None:
            raise BadAccount(word)
        self.cash = cash
        self.position = position
        self.orders = tuple(orders)
        self.parcels = parcels

    def with_order(self, order):
        """The account with one more order, any object, as the last one."""
        return Account(self.cash, self.position, self.orders + (order,), parcels=self.parcels)

    def without(self, indices):
        """The account without the orders at these indices."""
        orders = [order for index, order in enumerate(self.orders) if index not in indices]
        return Account(self.cash, self.position, orders, parcels=self.parcels)

    def filled(self, taken):
        """The pair (cash, position) behind the fill, any object."""
        _check_fill(self.orders, taken)
        cash = self.cash
        position = self.position
        for order, count in zip(self.orders, taken):
            pieces = order.sign * count
            cash = cash - pieces * order.limit
            position = position + self.parcels.apart(order.thing, pieces)
        return cash, position

    def after(self, taken):
        """The account behind the fill, any object, with what is left of the orders."""
        cash, position = self.filled(taken)
        left = [(order, order.count - count) for order, count in zip(self.orders, taken)]
        orders = [order.of_count(count) for order, count in left if count > 0]
        return Account(cash, position, orders, parcels=self.parcels)

    def corners(self):
        """Yields the fills that take each order wholly or not at all; the first order turns fastest."""
        for mask in range(1 << len(self.orders)):
            yield tuple([order.count if mask >> index & 1 else 0 for index, order in enumerate(self.orders)])
