"""Days on which a member holds a position along a window and is closed out at its end."""

from coveredday.breach import Day
from coveredday.moves import still
from coveredday.phases import ends, next_phases, phases_along
from coveredday.sums import backing

MOST_STEPS = 2000


def _phases_to_end(plan, window):
    """The phases, one behind each node of the walk but the last, of a row of steps from the opening to the end."""
    walk = window.walk
    before = phases_along(plan, window.group, window.opening[1], walk[:-1])
    found = [[phase for phase in before[-1] if ends(plan, walk[-1], phase) == window.end][0]]
    for node, early in zip(walk[-2::-1], before[-2::-1]):
        found.append([phase for phase in early if found[-1] in next_phases(plan, window.group, node, phase)][0])
    return found[-2::-1]


def _trading_place(plan, window, lead):
    """The index, in the lead and the walk together, of the node at which the member comes to hold the position."""
    if window.end == "free":
        return len(lead) + _phases_to_end(plan, window).index("free")
    return [plan.kind(node) in ("desk", "free") for node in lead + window.walk].index(True)


def _trades(position):
    """The deeds by which a comes to hold the position at a free node."""
    bought = [("trade", "a", "b", good, count) for good, count in position if count > 0]
    return bought + [("trade", "b", "a", good, -count) for good, count in position if count < 0]


def _orders(position, surplus):
    """The deeds by which a comes to hold the position at a desk and then pays out what it does not need."""
    deeds = []
    for good, count in position:
        sides = ("sell", "buy") if count > 0 else ("buy", "sell")
        if count != 0:
            deeds.extend([("order", member, good, side, abs(count), 0) for member, side in zip(("b", "a"), sides)])
    return deeds + [("pay_out", "a", surplus)] if surplus > 0 else deeds


def _move(plan, lead, places, at, move_of):
    """The move with which the node at the index is entered, or None."""
    if plan.kind(places[at]) != "move":
        return None
    # Prices stand until the window opens.
    return still(plan.goods) if at + 1 < len(lead) else move_of(plan.edge_table(places[at], places[at + 1]))


def window_day(plan, window, lead, position, move_of):
    """The day that goes the lead and the window's walk. Member a holds the position, all bought from b at the price 0,
    with just the backing as its cash; move_of tells the move of a node that is left by an edge with a table."""
    places = lead + window.walk
    trading = _trading_place(plan, window, lead)
    cash = backing(plan, window.group, window.end, position)
    # So much covers each position that is a part of this one, or of its opposite.
    greatest = max([most for _, _, most in plan.cover_table(window.group).entries])
    enough = greatest * sum([abs(count) for _, count in position])
    at_desk = plan.kind(places[trading]) == "desk"
    deeds = []
    for at, node in enumerate(places):
        if at == len(places) - 1:
            deeds.append(("notice", "a"))
        deeds.append(("enter", node, _move(plan, lead, places, at, move_of)))
        if at == trading:
            deeds.extend(_orders(position, enough - cash) if at_desk else _trades(position))
    members = (("a", window.group, enough if at_desk else cash), ("b", window.group, enough))
    return Day(still(plan.goods), members, deeds)
