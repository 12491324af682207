"""The greatest sums of windows, and the numbers on states that show them."""

from coveredday.errors import Endless
from coveredday.sums import check_sum, window_ways


def longest(plan, group, end, up, down):
    """The greatest sum of all windows; 0 if there are none, None if the sum is endless. Any objects but the plan."""
    check_sum(plan, group, end, up, down)
    ways = window_ways(plan, group, end)
    numbers = ways.greatest(ways.weights(lambda table: table[up, down]))
    return None if numbers is None else ways.most(numbers)


def potentials(plan, group, end, up, down):
    """The pairs (state, greatest sum from there to an end). Any objects but the plan."""
    check_sum(plan, group, end, up, down)
    ways = window_ways(plan, group, end)
    numbers = ways.greatest(ways.weights(lambda table: table[up, down]))
    if numbers is None:
        raise Endless(group, end, up, down)
    return tuple(numbers.items())
