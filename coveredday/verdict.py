"""The verdict on a plan: whether the house can ever be made to pay."""

from coveredday.breach import Breach
from coveredday.names import assets, pairs_of
from coveredday.safe import Safe
from coveredday.sums import allowance, weight_of
from coveredday.walks import shortest_walk
from coveredday.ways import Ways, shortest_way


def _nodes(way):
    """The nodes that a row of steps enters."""
    return tuple([step.node for step in way])


def _lead(plan, opening):
    """A walk up to the opening."""
    node, phase = opening
    return () if node is None else shortest_walk(plan, node, holding=phase == "holding")


def _sum_along(way, up, down):
    """How far a row of steps lets the pair part."""
    return sum([weight_of(step.table, up, down) for step in way])


def _endless_breach(plan, ways, row, arc):
    """The breach with as few turns of a ring through the arc as are needed."""
    group, end, up, down = row
    state, step = arc
    starts = [(opening, shortest_way(ways.arcs, opening, state)) for opening in ways.openings]
    opening, first = [(start, way) for start, way in starts if way is not None][0]
    ring = (step,) + shortest_way(ways.arcs, step.state, state)
    tail = shortest_way(ways.arcs, state, None)
    lacking = allowance(plan, group, end, up, down) - _sum_along(first + tail, up, down)
    gain = _sum_along(ring, up, down)
    turns = max(0, lacking // gain + 1)
    return Breach(
        group, end, up, down, opening=opening, lead=_lead(plan, opening), first=_nodes(first),
        ring=_nodes(ring) if turns else (), tail=_nodes(tail), turns=turns, phase=state[1] if turns else None,
        excess=turns * gain - lacking)


def _greatest_breach(plan, ways, row, numbers, excess):
    """The breach of a window with the greatest sum, where the sum is not endless."""
    group, end, up, down = row
    most = max([numbers[opening] for opening in ways.openings])
    opening = [start for start in ways.openings if numbers[start] == most][0]
    tight = [(state, step) for state, step in ways.arcs
             if numbers[state] == weight_of(step.table, up, down) + numbers.get(step.state, 0)]
    first = shortest_way(tight, opening, None)
    return Breach(
        group, end, up, down, opening=opening, lead=_lead(plan, opening), first=_nodes(first), ring=(), tail=(),
        turns=0, phase=None, excess=excess)


def _judged(plan, ways, row):
    """The pair of the breach for a group, an end and a pair, and None; or of None and the potentials."""
    group, end, up, down = row
    weights = ways.weights(up, down)
    arc = ways.ring_arc(weights)
    if arc is not None:
        return _endless_breach(plan, ways, row, arc), None
    numbers = ways.greatest(weights)
    most = max([numbers[opening] for opening in ways.openings], default=0)
    excess = most - allowance(plan, group, end, up, down)
    if excess > 0:
        return _greatest_breach(plan, ways, row, numbers, excess), None
    return None, tuple(numbers.items())


def verdict(plan):
    """A Breach of the first group, end and pair with a window whose sum is too great; a Safe if there is none."""
    papers = []
    for group in plan.group_names:
        for end in ("free", "stand"):
            ways = Ways(plan, group, end)
            for up, down in pairs_of(assets(plan.goods)):
                row = (group, end, up, down)
                found, numbers = _judged(plan, ways, row)
                if found is not None:
                    return found
                papers.append(row + (numbers,))
    return Safe(papers)
