"""Needs: what a member can lose in a window that holds just one position."""

from coveredday.cover import cover_amount
from coveredday.longwalk import LongWalk
from coveredday.names import check_same_goods
from coveredday.sums import backing, check_end, window_ways
from coveredday.ways import nodes_along


class Need(LongWalk):
    """The greatest loss of a position in the windows with this end, or None, and a window that shows it."""

    def __init__(self, amount, *, group, position, end, opening, first, ring=(), tail=()):
        super().__init__(amount, None if opening is None else opening[0], first, ring, tail)
        self.group = group
        self.position = position
        self.end = end
        self.opening = None if opening is None else tuple(opening)


def need(plan, group, position, *, end="stand"):
    """The need of the position in a group; the group and the end are any objects."""
    plan.check_group(group)
    check_end(end)
    check_same_goods(plan.goods, position)
    ways = window_ways(plan, group, end)
    if not ways.starts:
        return Need(0, group=group, position=position, end=end, opening=None, first=())
    weights = ways.weights(lambda table: cover_amount(position, table))
    amount, opening, first, ring, tail = ways.longest_way(weights)
    return Need(amount, group=group, position=position, end=end, opening=opening, first=nodes_along(first),
                ring=nodes_along(ring), tail=nodes_along(tail))


def pays_at_most(plan, group, position, *, end="stand"):
    """What the house can be made to pay for a member that holds the position with just its backing; None is endless."""
    told = need(plan, group, position, end=end)
    return None if told.amount is None else max(0, told.amount - backing(plan, group, end, position))
