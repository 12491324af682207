"""Ways: arcs between states that lead to an end, and greatest sums along them.

An arc is a tuple (state, node, other, table): from the state it enters the node, or none, which
leads to the other state; None as that is the end. The table is that of the edge, or None.
"""

from coveredday.search import shortest_rows


def _reach(places, arcs):
    """For each place a whole number whose bits tell to which places, itself included, the arcs lead from it."""
    masks = {place: 1 << index for index, place in enumerate(places)}
    for state, _, other, _ in arcs:
        masks[state] = masks[state] | masks[other]
    for index, middle in enumerate(places):
        for place in places:
            if masks[place] >> index & 1:
                masks[place] = masks[place] | masks[middle]
    return masks


def _distinct(tables):
    """The unlike ones of these tables, and for each of these at which index it stands among them."""
    found = []
    places = {}
    indices = []
    for table in tables:
        key = None if table is None else table.entries
        if key not in places:
            places[key] = len(found)
            found.append(table)
        indices.append(places[key])
    return found, indices


def _shortest_way(arcs, start, goal):
    """A shortest row of these arcs from a state to a state or to None, the end; None if there is none."""
    leads = {}
    for arc in arcs:
        leads.setdefault(arc[0], []).append((arc, arc[2]))
    return shortest_rows((start,), lambda state: leads.get(state, ())).get(goal)


def nodes_along(way):
    """The nodes that a row of arcs enters."""
    return tuple([node for _, node, _, _ in way if node is not None])


def sum_along(way, weigh):
    """The sum of what weigh tells of the tables along a row of arcs."""
    return sum([weigh(table) for _, _, _, table in way if table is not None])


def ways_from(starts, arcs_of):
    """The Ways of all arcs to which arcs_of, asked for the arcs from a state, leads from the starts."""
    known = tuple(shortest_rows(starts, lambda state: [(None, arc[2]) for arc in arcs_of(state) if arc[2] is not None]))
    return Ways(starts, known, [arc for state in known for arc in arcs_of(state)])


class Ways:
    """The arcs behind which the end can still be reached, and those of the known states and of the starts
    from which it can.

    A sum of weights can be raised without an end exactly if an arc of a positive weight stands
    in a ring. Two states stand in one ring exactly if they reach the same places; and whatever
    is reached from outside its rings reaches less, so it has the lesser number.
    """

    def __init__(self, starts, known, arcs):
        masks = _reach((None,) + known, arcs)
        useful = [arc for arc in arcs if masks[arc[2]] & 1]
        self._masks = masks
        self.arcs = tuple(sorted(useful, key=lambda arc: masks[arc[0]]))
        self.states = tuple([state for state in known if masks[state] & 1])
        self.starts = tuple([start for start in starts if masks[start] & 1])
        self._tables, self._indices = _distinct([table for _, _, _, table in self.arcs])

    def weights(self, weigh):
        """What weigh tells of the table of each arc; 0 without a table."""
        numbers = [0 if table is None else weigh(table) for table in self._tables]
        return [numbers[index] for index in self._indices]

    def greatest(self, weights):
        """The greatest sum of weights from each state to the end; None if the sums are endless."""
        if self._ring_arc(weights) is not None:
            return None
        best = {self._masks[None]: 0}
        for (state, _, other, _), weight in zip(self.arcs, weights):
            mask = self._masks[state]
            if self._masks[other] != mask:
                number = weight + best[self._masks[other]]
                best[mask] = max(number, best.get(mask, number))
        return {state: best[self._masks[state]] for state in self.states}

    def most(self, numbers):
        """The greatest of these numbers on states at a start; 0 if there are no ways."""
        return max([numbers[start] for start in self.starts], default=0)

    def longest_way(self, weights):
        """The greatest sum, a start, and rows of arcs from there to the end that show it: the tuple
        (sum, start, first, ring, tail). Without a ring there are as few arcs as can be; with one, the
        sums are endless, and the sum is None. There are ways."""
        arc = self._ring_arc(weights)
        return self._straight_way(weights) if arc is None else self._turning_way(arc)

    def _ring_arc(self, weights):
        """An arc with a weight above 0 that stands in a ring, or None."""
        for arc, weight in zip(self.arcs, weights):
            if weight > 0 and self._masks[arc[0]] == self._masks[arc[2]]:
                return arc
        return None

    def _turning_way(self, arc):
        state, _, other, _ = arc
        found = [(start, _shortest_way(self.arcs, start, state)) for start in self.starts]
        start, first = [(start, way) for start, way in found if way is not None][0]
        ring = (arc,) + _shortest_way(self.arcs, other, state)
        return None, start, first, ring, _shortest_way(self.arcs, state, None)

    def _straight_way(self, weights):
        numbers = self.greatest(weights)
        most = self.most(numbers)
        # A way has the greatest sum exactly if none of its arcs gives any of it away.
        tight = [arc for arc, weight in zip(self.arcs, weights)
                 if numbers[arc[0]] == weight + (0 if arc[2] is None else numbers[arc[2]])]
        found = [(start, _shortest_way(tight, start, None)) for start in self.starts if numbers[start] == most]
        start, first = min(found, key=lambda row: len(row[1]))
        return most, start, first, (), ()
