"""Orders, and which of them meet."""

from coveredday.errors import BadOrder
from coveredday.names import MOST, MOST_COUNT, is_name, is_thing_name, is_whole


class Order:
    """An offer to buy or to sell up to so many pieces; it never changes."""
    BUY = "buy"
    SELL = "sell"

    def __init__(self, member, thing, side, count, limit):
        if not is_name(member):
            raise BadOrder("member")
        if not is_thing_name(thing):
            raise BadOrder("thing")
        if side != Order.BUY and side != Order.SELL:
            raise BadOrder("side")
        if not is_whole(count, 1, MOST_COUNT):
            raise BadOrder("count")
        if not is_whole(limit, -MOST, MOST):
            raise BadOrder("limit")
        self.member = member
        self.thing = thing
        self.side = side
        self.count = count
        self.limit = limit

    @property
    def sign(self):
        """1 to buy, -1 to sell."""
        return 1 if self.side == Order.BUY else -1

    def of_count(self, count):
        """The same order with this count, any object."""
        return Order(self.member, self.thing, self.side, count, self.limit)

    def __eq__(self, other):
        return (isinstance(other, Order) and self.member == other.member and self.thing == other.thing
                and self.side == other.side and self.count == other.count and self.limit == other.limit)


def meets(one, other):
    """Whether two orders meet, whichever of them is passed first."""
    if one.member == other.member or one.thing != other.thing or one.side == other.side:
        return False
    # Of two unlike sides just one sign is -1: the sum is the buyer's limit less the seller's.
    return one.sign * one.limit + other.sign * other.limit >= 0
