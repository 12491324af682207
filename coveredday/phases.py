"""Phases: how a window, in which nobody asks a member for what it loses, opens, goes on and ends."""

from coveredday.errors import NoPhase
from coveredday.search import shortest_rows
from coveredday.walks import reachable, shortest_walk

PHASES = ("empty", "holding", "stand", "out", "free", "freeout")
ENDS = ("stand", "free")

# What entering a node of the kind makes of the phase; where nothing is told, the phase stays.
_NEXT = {
    ("tell", "empty"): (),
    ("tell", "holding"): (),
    ("desk", "empty"): ("holding", "stand"),
    ("desk", "holding"): ("holding", "stand"),
    ("free", "empty"): ("holding", "free"),
    ("free", "holding"): ("holding", "free"),
    ("look", "holding"): ("holding", "stand"),
    ("look", "stand"): ("out",),
    ("look", "free"): ("freeout",),
    ("close", "out"): (),
    ("close", "freeout"): (),
}
_END = {"stand": "stand", "out": "stand", "free": "free", "freeout": "free"}


def _check_phase(thing):
    """Raises NoPhase unless thing, any object, is a phase."""
    if thing not in PHASES:
        raise NoPhase(thing)


def next_phases(plan, group, node, phase):
    """The phases to which entering the node leads; all but the plan are any objects."""
    plan.check_group(group)
    kind = plan.kind(node)
    _check_phase(phase)
    if kind == "look" and not plan.looks_at(node, group):
        return (phase,)
    return _NEXT.get((kind, phase), (phase,))


def ends(plan, node, phase):
    """The kind of end that a window may have by entering the node, or None; node and phase are any objects."""
    kind = plan.kind(node)
    _check_phase(phase)
    return _END.get(phase) if kind == "close" else None


def openings(plan, group):
    """The states in which a window of the group, any object, may open."""
    plan.check_group(group)
    found = [(None, "empty")]
    for node in reachable(plan):
        if plan.kind(node) == "tell":
            found.append((node, "empty"))
            if shortest_walk(plan, node, holding=True) is not None:
                found.append((node, "holding"))
    return tuple(found)


def lead_to(plan, opening):
    """A shortest walk up to an opening, past a desk or free node if something is held there."""
    node, phase = opening
    return () if node is None else shortest_walk(plan, node, holding=phase == "holding")


class Step:
    """A step of a window: the node entered, the state behind it or None, the edge's table, the end or None."""

    def __init__(self, node, state, table, end):
        self.node = node
        self.state = state
        self.table = table
        self.end = end

    def __eq__(self, other):
        return (isinstance(other, Step) and self.node == other.node and self.state == other.state
                and self.table == other.table and self.end == other.end)


def steps(plan, group, state):
    """The steps from a state of any node, or None, and any phase."""
    plan.check_group(group)
    place, phase = state
    plan.check_place(place)
    _check_phase(phase)
    found = []
    for node, _ in plan.followers(place):
        table = plan.edge_table(place, node)
        end = ends(plan, node, phase)
        if end is not None:
            found.append(Step(node, None, table, end))
        for late in next_phases(plan, group, node, phase):
            found.append(Step(node, (node, late), table, None))
    return tuple(found)


def _leads(plan, group, state):
    """The steps from the state that do not end the window, with the states behind them."""
    return [(step, step.state) for step in steps(plan, group, state) if step.end is None]


def states(plan, group):
    """The states to which steps lead from an opening, by their nodes and then by their phases."""
    rows = shortest_rows(openings(plan, group), lambda state: _leads(plan, group, state))
    order = [(node, phase) for node in (None,) + plan.node_names for phase in PHASES]
    return tuple([state for state in order if state in rows])


def phases_along(plan, group, phase, walk):
    """In which phases a row of steps along the walk can be that begins in this phase: a tuple of
    them at first, and one behind each node of the walk, in the order of the phases."""
    found = [(phase,)]
    for node in walk:
        after = [late for early in found[-1] for late in next_phases(plan, group, node, early)]
        found.append(tuple([late for late in PHASES if late in after]))
    return tuple(found)


def ends_along(plan, group, phase, walk):
    """The ends that rows of steps along the walk, which is not empty, can have that begin in this phase."""
    told = [ends(plan, walk[-1], late) for late in phases_along(plan, group, phase, walk[:-1])[-1]]
    return tuple([end for end in ENDS if end in told])
