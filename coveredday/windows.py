"""Windows: the parts of a day in which a member of a group can lose what nobody asks it for."""

from coveredday.errors import NoWindow
from coveredday.names import as_tuples
from coveredday.phases import ENDS, ends_along, openings, states, steps
from coveredday.plan import names_of
from coveredday.walks import walk_fault, walk_table


class Window:
    """A window of a group: the state in which it opens, the walk behind it, and the end."""

    def __init__(self, group, opening, walk, end):
        self.group = group
        self.opening = as_tuples(opening)
        self.walk = as_tuples(walk)
        self.end = end

    def __eq__(self, other):
        return (isinstance(other, Window) and self.group == other.group and self.opening == other.opening
                and self.walk == other.walk and self.end == other.end)


def _nearness(leads, length):
    """With how many steps at least an end is reached, up to so many: of None, which is behind an end, 0."""
    near = {None: 0}
    for count in range(1, length + 1):
        fresh = [state for state in leads if any([step.state in near for step in leads[state]])]
        for state in fresh:
            near.setdefault(state, count)
    return near


def windows(plan, group, length):
    """Yields the windows of the group, any object, whose walks have at most so many nodes."""
    leads = {state: steps(plan, group, state) for state in states(plan, group)}
    near = _nearness(leads, length)
    for opening in openings(plan, group):
        # Each row has a walk, the states that it can lead to, and the ends that it can have.
        rows = [((), (opening,), ())]
        while rows:
            walk, behind, told = rows.pop()
            for end in ENDS:
                if end in told:
                    yield Window(group, opening, walk, end)
            left = length - len(walk)
            longer = []
            for node in names_of(plan.followers(walk[-1] if walk else opening[0])):
                onward = [step for state in behind for step in leads[state] if step.node == node]
                useful = [step for step in onward if near.get(step.state, left) < left]
                if useful:
                    late = {step.state: True for step in useful if step.state is not None}
                    longer.append((walk + (node,), tuple(late), [step.end for step in useful]))
            rows.extend(longer[::-1])


def window_fault(plan, window):
    """What is wrong with a Window as one of the plan, or None."""
    if window.group not in plan.group_names:
        return "group"
    if window.opening not in openings(plan, window.group):
        return "opening"
    place, phase = window.opening
    if not window.walk or walk_fault(plan, window.walk, place) is not None:
        return "walk"
    if window.end not in ends_along(plan, window.group, phase, window.walk):
        return "end"
    return None


def window_table(plan, window):
    """The sum of the tables of the window's walk."""
    word = window_fault(plan, window)
    if word is not None:
        raise NoWindow(word)
    return walk_table(plan, window.walk, window.opening[0])
