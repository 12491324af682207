"""Equity and slack, the worst fill of an account, and the orders to cancel so that it is covered."""

from coveredday.cover import cover, cover_amount


def equity(cash, position, prices):
    """The cash and the worth of the position; prices are any object."""
    return cash + position.worth(prices)


def slack(cash, position, prices, table):
    """The equity less the cover of the position; prices are any object."""
    return equity(cash, position, prices) - cover_amount(position, table)


class WorstFill:
    """The least slack of an account, a fill behind which it is met, and the cover there."""

    def __init__(self, least, taken, found):
        self.slack = least
        self.taken = tuple(taken)
        self.cover = found


def worst_fill(account, prices, table):
    """The first corner whose slack is least; prices are any object."""
    rows = [(taken, account.filled(taken)) for taken in account.corners()]
    slacks = [slack(cash, position, prices, table) for _, (cash, position) in rows]
    least = min(slacks)
    taken, (_, position) = rows[slacks.index(least)]
    return WorstFill(least, taken, cover(position, table))


def is_covered(account, prices, table):
    """Whether no fill leaves a slack below 0."""
    return worst_fill(account, prices, table).slack >= 0


def _index_sets(count):
    """All sets of indices below count as ascending tuples, the small ones first."""
    sets = [tuple([index for index in range(count) if mask >> index & 1]) for mask in range(1 << count)]
    return sorted(sets, key=lambda indices: (len(indices), indices))


def least_cancels(account, prices, table):
    """The least sets of orders without which the account is covered, as tuples of indices."""
    found = []
    for indices in _index_sets(len(account.orders)):
        # All proper subsets came earlier: the set is needed only if it contains none that is enough.
        within = [all([index in indices for index in enough]) for enough in found]
        if not any(within) and is_covered(account.without(indices), prices, table):
            found.append(indices)
    return tuple(found)
