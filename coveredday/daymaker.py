"""Days on which the house pays what a breach shows."""

from coveredday.breach import Day
from coveredday.errors import BadBreach, TooLong
from coveredday.moves import extreme_move, still
from coveredday.phases import ends, next_phases, phases_along
from coveredday.sums import allowance
from coveredday.verdictjudge import breach_fault

_MOST_STEPS = 2000


def _phases_to_end(plan, breach, walk):
    """The phases, one behind each node of the walk but the last, of a row of steps from the opening to the end."""
    before = phases_along(plan, breach.group, breach.opening[1], walk[:-1])
    found = [[phase for phase in before[-1] if ends(plan, walk[-1], phase) == breach.end][0]]
    for node, early in zip(walk[-2::-1], before[-2::-1]):
        found.append([phase for phase in early if found[-1] in next_phases(plan, breach.group, node, phase)][0])
    return found[-2::-1]


def _trading_place(plan, breach, walk):
    """The index, in the lead and the walk together, of the node at which the member comes to hold the pair."""
    if breach.end == "free":
        return len(breach.lead) + _phases_to_end(plan, breach, walk).index("free")
    return [plan.kind(node) in ("desk", "free") for node in breach.lead + walk].index(True)


def _trades(breach):
    """The deeds by which a comes to hold the pair at a free node."""
    trades = (("trade", "a", "b", breach.down, 1), ("trade", "b", "a", breach.up, 1))
    return [deed for deed in trades if deed[3] != "cash"]


def _orders(breach, surplus):
    """The deeds by which a comes to hold the pair at a desk and then pays out what it does not need."""
    orders = (("order", "b", breach.down, "sell", 1, 0), ("order", "a", breach.down, "buy", 1, 0),
              ("order", "b", breach.up, "buy", 1, 0), ("order", "a", breach.up, "sell", 1, 0))
    deeds = [deed for deed in orders if deed[2] != "cash"]
    return deeds + [("pay_out", "a", surplus)] if surplus > 0 else deeds


def _move(plan, breach, places, at):
    """The move with which the node at the index is entered, or None."""
    if plan.kind(places[at]) != "move":
        return None
    if at + 1 < len(breach.lead):
        return still(plan.goods)
    return extreme_move(plan.edge_table(places[at], places[at + 1]), breach.up, breach.down)


def day_of(plan, breach):
    """A day on which the house pays just the excess of the breach, a Breach of any objects, for member a."""
    word = breach_fault(plan, breach)
    if word is not None:
        raise BadBreach(word)
    if breach.walk_length > _MOST_STEPS:
        raise TooLong(breach.walk_length)
    walk = breach.first + breach.ring * breach.turns + breach.tail
    places = breach.lead + walk
    trading = _trading_place(plan, breach, walk)
    # So much is enough for any position of at most one piece of two assets.
    enough = max([most for _, _, most in plan.cover_table(breach.group).entries])
    cash = allowance(plan, breach.group, breach.end, breach.up, breach.down)
    at_desk = plan.kind(places[trading]) == "desk"
    deeds = []
    for at, node in enumerate(places):
        if at == len(places) - 1:
            deeds.append(("notice", "a"))
        deeds.append(("enter", node, _move(plan, breach, places, at)))
        if at == trading:
            deeds.extend(_orders(breach, enough - cash) if at_desk else _trades(breach))
    members = (("a", breach.group, enough if at_desk else cash), ("b", breach.group, enough))
    return Day(still(plan.goods), members, deeds)
