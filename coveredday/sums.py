"""What the sums of windows are about: groups, ends and pairs, their ways, weights and allowances."""

from coveredday.cover import cover_amount
from coveredday.errors import BadEnd, SamePair
from coveredday.names import assets, check_asset, pairs_of
from coveredday.phases import ENDS, openings, states, steps
from coveredday.ways import Ways


def check_end(thing):
    """Raises BadEnd unless thing, any object, is an end of windows."""
    if thing not in ENDS:
        raise BadEnd(thing)


def check_pair(known, up, down):
    """Raises NoAsset or SamePair unless up and down, any objects, are two of the known assets."""
    check_asset(known, up)
    check_asset(known, down)
    if up == down:
        raise SamePair(up)


def check_sum(plan, group, end, up, down):
    """Raises what is wrong first with a group, an end and a pair, any objects."""
    plan.check_group(group)
    check_end(end)
    check_pair(assets(plan.goods), up, down)


def all_sums(plan):
    """All (group, end, up, down), in the order in which a verdict goes through them."""
    pairs = pairs_of(assets(plan.goods))
    return tuple([(group, end, up, down) for group in plan.group_names for end in ("free", "stand")
                  for up, down in pairs])


def weight_of(table, up, down):
    """How far a step with this table, or None, lets the pair part."""
    return 0 if table is None else table[up, down]


def allowance(plan, group, end, up, down):
    """How great the sum of a window may be without the house having to pay."""
    return plan.cover_table(group)[up, down] if end == "stand" else 0


def backing(plan, group, end, position):
    """What stands behind a position when a window with this end begins to count."""
    return cover_amount(position, plan.cover_table(group)) if end == "stand" else 0


def window_ways(plan, group, end):
    """The ways from the openings of the group's windows to this end."""
    known = states(plan, group)
    arcs = [(state, step.node, step.state, step.table) for state in known for step in steps(plan, group, state)
            if step.end in (None, end)]
    return Ways(openings(plan, group), known, arcs)
