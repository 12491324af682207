"""Equity and slack, the worst fill of an account, and the orders to cancel so that it is covered."""

from coveredday.cover import cover, cover_amount
from coveredday.indexsets import least_sets


def equity(cash, position, prices):
    """The cash and the worth of the position; prices are any object."""
    return cash + position.worth(prices)


def slack(cash, position, prices, table):
    """The equity less the cover of the position; prices are any object."""
    return equity(cash, position, prices) - cover_amount(position, table)


class WorstFill:
    """The least slack of an account, a fill behind which it is met, and the cover there."""

    def __init__(self, least, taken, found):
        self.slack = least
        self.taken = tuple(taken)
        self.cover = found


def worst_fill(account, prices, table):
    """The first corner whose slack is least; prices are any object."""
    rows = [(taken, account.filled(taken)) for taken in account.corners()]
    slacks = [slack(cash, position, prices, table) for _, (cash, position) in rows]
    least = min(slacks)
    taken, (_, position) = rows[slacks.index(least)]
    return WorstFill(least, taken, cover(position, table))


def is_covered(account, prices, table):
    """Whether no fill leaves a slack below 0."""
    return worst_fill(account, prices, table).slack >= 0


def least_cancels(account, prices, table):
    """The least sets of orders without which the account is covered, as tuples of indices."""
    return least_sets(len(account.orders), lambda indices: is_covered(account.without(indices), prices, table))
