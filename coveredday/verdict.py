"""The verdict on a plan: whether the house can ever be made to pay."""

from coveredday.breach import Breach
from coveredday.names import assets, pairs_of
from coveredday.phases import lead_to
from coveredday.safe import Safe
from coveredday.sums import allowance, window_ways
from coveredday.ways import nodes_along, sum_along


def _breach(plan, row, way):
    """The breach of the way (sum, opening, first, ring, tail), with as few turns of the ring as are needed."""
    group, end, up, down = row
    _, opening, first, ring, tail = way
    lacking = allowance(plan, group, end, up, down) - sum_along(first + tail, lambda table: table[up, down])
    gain = sum_along(ring, lambda table: table[up, down])
    turns = max(0, lacking // gain + 1) if ring else 0
    return Breach(
        group, end, up, down, opening=opening, lead=lead_to(plan, opening), first=nodes_along(first),
        ring=nodes_along(ring) if turns else (), tail=nodes_along(tail), turns=turns,
        phase=ring[0][0][1] if turns else None, excess=turns * gain - lacking)


def verdict(plan):
    """A Breach of the first group, end and pair with a window whose sum is too great; a Safe if there is none."""
    papers = []
    for group in plan.group_names:
        for end in ("free", "stand"):
            ways = window_ways(plan, group, end)
            for up, down in pairs_of(assets(plan.goods)):
                row = (group, end, up, down)
                weights = ways.weights(lambda table: table[up, down])
                numbers = ways.greatest(weights)
                if numbers is None or ways.most(numbers) > allowance(plan, group, end, up, down):
                    return _breach(plan, row, ways.longest_way(weights))
                papers.append(row + (tuple(numbers.items()),))
    return Safe(papers)
