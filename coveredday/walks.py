"""Walks: rows of nodes in which each follows the one before it."""

from coveredday.errors import NoWalk
from coveredday.names import is_sequence
from coveredday.plan import names_of
from coveredday.search import shortest_rows
from coveredday.tablesums import total


def walk_fault(plan, walk, behind=None):
    """The index of the first item of walk, any object, that cannot follow; -1 if it is no sequence, or None."""
    plan.check_place(behind)
    if not is_sequence(walk):
        return -1
    place = behind
    for at, node in enumerate(walk):
        if node not in names_of(plan.followers(place)):
            return at
        place = node
    return None


def tables_along(plan, walk, behind=None):
    """The tables of the edges that a right walk passes, without those that are None."""
    places = (behind,) + tuple(walk)
    tables = [plan.edge_table(one, other) for one, other in zip(places, walk)]
    return tuple([table for table in tables if table is not None])


def walk_table(plan, walk, behind=None):
    """The sum of the tables of all edges that walk, any object, passes."""
    at = walk_fault(plan, walk, behind)
    if at is not None:
        raise NoWalk(at)
    tables = tables_along(plan, walk, behind)
    return total(plan.goods, *tables)


def reachable(plan):
    """The nodes that stand in some walk behind the start, in the order of the plan."""
    rows = shortest_rows((None,), lambda place: [(node, node) for node, _ in plan.followers(place)])
    return tuple([node for node in plan.node_names if node in rows])


def _leads(plan, place, passed):
    """The steps of a walk that tells whether a desk or free node was passed; None is the start."""
    passes = passed or (place is not None and plan.kind(place) in ("desk", "free"))
    return [(node, (node, passes)) for node, _ in plan.followers(place)]


def shortest_walk(plan, node, *, holding):
    """A shortest walk to the node, any object; with holding, one that passes a desk or free node ahead of it."""
    plan.check_node(node)
    rows = shortest_rows(((None, False),), lambda state: _leads(plan, state[0], state[1]))
    ways = [rows[state] for state in rows if state[0] == node and (state[1] or not holding)]
    return min(ways, key=len, default=None)
