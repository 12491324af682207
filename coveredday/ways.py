"""Ways: the steps of a group's windows that lead to one kind of end, and greatest sums along them."""

from coveredday.phases import openings, states, steps
from coveredday.search import shortest_rows
from coveredday.sums import weight_of


def _reach(places, arcs):
    """For each place a whole number whose bits tell to which places, itself included, the arcs lead from it."""
    masks = {place: 1 << index for index, place in enumerate(places)}
    for state, step in arcs:
        masks[state] = masks[state] | masks[step.state]
    for index, middle in enumerate(places):
        for place in places:
            if masks[place] >> index & 1:
                masks[place] = masks[place] | masks[middle]
    return masks


def shortest_way(arcs, start, goal):
    """A shortest row of steps of these arcs from a state to a state or to None, the end; None if there is none."""
    leads = {}
    for state, step in arcs:
        leads.setdefault(state, []).append((step, step.state))
    return shortest_rows((start,), lambda state: leads.get(state, ())).get(goal)


class Ways:
    """The arcs (state, step) behind which an end of this kind can still be reached; None stands for the end.

    A sum of weights can be raised without an end exactly if an arc of a positive weight stands
    in a ring. Two states stand in one ring exactly if they reach the same places; and whatever
    is reached from outside its rings reaches less, so it has the lesser number.
    """

    def __init__(self, plan, group, end):
        known = states(plan, group)
        arcs = [(state, step) for state in known for step in steps(plan, group, state) if step.end in (None, end)]
        masks = _reach((None,) + known, arcs)
        useful = [(state, step) for state, step in arcs if masks[step.state] & 1]
        self._masks = masks
        self.arcs = tuple(sorted(useful, key=lambda arc: masks[arc[0]]))
        self.states = tuple([state for state in known if masks[state] & 1])
        self.openings = tuple([opening for opening in openings(plan, group) if masks[opening] & 1])

    def weights(self, up, down):
        """How far each arc lets the pair part."""
        return [weight_of(step.table, up, down) for _, step in self.arcs]

    def ring_arc(self, weights):
        """An arc with a weight above 0 that stands in a ring, or None."""
        for (state, step), weight in zip(self.arcs, weights):
            if weight > 0 and self._masks[state] == self._masks[step.state]:
                return state, step
        return None

    def greatest(self, weights):
        """The greatest sum of the weights of a row of steps from each state to the end; no ring raises a sum."""
        best = {self._masks[None]: 0}
        for (state, step), weight in zip(self.arcs, weights):
            mask = self._masks[state]
            if self._masks[step.state] != mask:
                number = weight + best[self._masks[step.state]]
                best[mask] = max(number, best.get(mask, number))
        return {state: best[self._masks[state]] for state in self.states}
