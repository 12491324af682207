"""Least tables: with how little cover the house never pays for a group."""

from coveredday.errors import Endless
from coveredday.names import assets, check_same_goods, pairs_of
from coveredday.sums import check_sum, window_ways
from coveredday.tables import made_table
from coveredday.ways import nodes_along
from coveredday.windows import Window


def _greatest_sums(plan, group, end):
    """The rows (up, down, greatest sum) of all pairs; None is endless."""
    ways = window_ways(plan, group, end)
    rows = []
    for up, down in pairs_of(assets(plan.goods)):
        numbers = ways.greatest(ways.weights(lambda table: table[up, down]))
        rows.append((up, down, None if numbers is None else ways.most(numbers)))
    return rows


def least_table(plan, group):
    """The least cover table that is enough for the group, any object; None if none is."""
    plan.check_group(group)
    if any([most != 0 for _, _, most in _greatest_sums(plan, group, "free")]):
        return None
    rows = _greatest_sums(plan, group, "stand")
    return None if any([most is None for _, _, most in rows]) else made_table(plan.goods, rows)


def is_enough(plan, group, table):
    """Whether the house never pays for the group, any object, with this cover table."""
    plan.check_group(group)
    check_same_goods(plan.goods, table)
    least = least_table(plan, group)
    return least is not None and least.within(table)


def spare(plan, group):
    """The rows (up, down, how much the group's cover table has more than the least one); None if there is none."""
    least = least_table(plan, group)
    if least is None:
        return None
    return tuple([(up, down, most - least[up, down]) for up, down, most in plan.cover_table(group).entries])


def reason(plan, group, end, up, down):
    """A window with the greatest sum and as few nodes as can be; None without windows. Any objects but the plan."""
    check_sum(plan, group, end, up, down)
    ways = window_ways(plan, group, end)
    if not ways.starts:
        return None
    most, opening, first, _, _ = ways.longest_way(ways.weights(lambda table: table[up, down]))
    if most is None:
        raise Endless(group, end, up, down)
    return Window(group, opening, nodes_along(first), end)
