"""Calls: how much a member must pay in now to pass the next look."""

from coveredday.cover import cover_amount
from coveredday.errors import BadAccount
from coveredday.fills import equity
from coveredday.longwalk import LongWalk
from coveredday.sights import sight
from coveredday.views import check_told
from coveredday.ways import nodes_along, ways_from


class Call(LongWalk):
    """An amount, the least slack at the next look, a fill behind which it is met, and a way on which it is."""

    def __init__(self, amount, *, slack, taken, behind, first, ring=(), tail=()):
        super().__init__(amount, behind, first, ring, tail)
        self.slack = slack
        self.taken = tuple(taken)


def _arcs(outlook, state):
    """The arcs from a state (count, node, is counted) on ways to the next look.

    The look goes by the prices told last ahead of it: any telling behind all that was seen may be
    that one, and from there on nothing is counted. A later one only adds to what is lost.
    """
    count, node, is_counted = state
    arcs = []
    for other, late, edge in outlook.onward(count, node):
        word = sight(outlook.plan, outlook.group, other)
        table = edge if is_counted else None
        if word != "look" or not outlook.has_seen_all(count):
            arcs.append((state, other, (late, other, is_counted), table))
        elif not is_counted:
            arcs.append((state, other, None, None))
        if word == "tell" and is_counted:
            arcs.append((state, other, (late, other, False), table))
    return arcs


def _way_call(amount, least, taken, way):
    """The call that this way (loss, start, first, ring, tail) shows."""
    _, start, first, ring, tail = way
    return Call(amount, slack=least, taken=taken, behind=start[1], first=nodes_along(first), ring=nodes_along(ring),
                tail=nodes_along(tail))


def call(outlook, account, told):
    """What an account must pay in to pass the next look, if these prices, any object, were told last."""
    check_told(outlook.plan, told)
    if account.position.goods != outlook.plan.goods:
        raise BadAccount("position")
    starts = tuple([(0, node, is_counted) for node in outlook.tellings() for is_counted in (True, False)])
    ways = ways_from(starts, lambda state: _arcs(outlook, state))
    if not ways.starts:
        return Call(0, slack=None, taken=(), behind=None, first=())
    cover_table = outlook.plan.cover_table(outlook.group)
    rows = []
    for taken in account.corners():
        cash, position = account.filled(taken)
        weights = ways.weights(lambda table: cover_amount(position, table))
        numbers = ways.greatest(weights)
        if numbers is None:
            return _way_call(None, None, taken, ways.longest_way(weights))
        now = equity(cash, position, told) - cover_amount(position, cover_table)
        rows.append((now - ways.most(numbers), taken, weights))
    least = min([low for low, _, _ in rows])
    _, taken, weights = [row for row in rows if row[0] == least][0]
    return _way_call(max(0, -least), least, taken, ways.longest_way(weights))
