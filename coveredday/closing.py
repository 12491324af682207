"""Closing out: what becomes of the cash of a member whose position is taken away."""


class Closing:
    """The worth of the position, the cash with it, what the house pays, and the cash behind all of this."""

    def __init__(self, worth, before, paid, cash):
        self.worth = worth
        self.before = before
        self.paid = paid
        self.cash = cash

    def __eq__(self, other):
        return (isinstance(other, Closing) and self.worth == other.worth and self.before == other.before
                and self.paid == other.paid and self.cash == other.cash)


def close_out(cash, position, prices):
    """The closing of a position at these prices, any object."""
    worth = position.worth(prices)
    before = cash + worth
    paid = max(0, -before)
    return Closing(worth, before, paid, before + paid)
