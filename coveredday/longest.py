"""The greatest sums of windows, and the numbers on states that show them."""

from coveredday.errors import Endless
from coveredday.sums import check_sum
from coveredday.ways import Ways


def longest(plan, group, end, up, down):
    """The greatest sum of all windows; 0 if there are none, None if the sum is endless. Any objects but the plan."""
    check_sum(plan, group, end, up, down)
    ways = Ways(plan, group, end)
    weights = ways.weights(up, down)
    if ways.ring_arc(weights) is not None:
        return None
    numbers = ways.greatest(weights)
    return max([numbers[opening] for opening in ways.openings], default=0)


def potentials(plan, group, end, up, down):
    """The pairs (state, greatest sum from there to an end). Any objects but the plan."""
    check_sum(plan, group, end, up, down)
    ways = Ways(plan, group, end)
    weights = ways.weights(up, down)
    if ways.ring_arc(weights) is not None:
        raise Endless(group, end, up, down)
    return tuple(ways.greatest(weights).items())
