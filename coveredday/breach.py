"""A breach: a window whose sum is too great; and a day, as a house can play it."""

from coveredday.names import as_tuples


class Breach:
    """A window of first, then turns times the ring, then tail, and by how much its sum is too great; any objects."""

    def __init__(self, group, end, up, down, *, opening, lead, first, ring, tail, turns, phase, excess):
        self.group = as_tuples(group)
        self.end = as_tuples(end)
        self.up = as_tuples(up)
        self.down = as_tuples(down)
        self.opening = as_tuples(opening)
        self.lead = as_tuples(lead)
        self.first = as_tuples(first)
        self.ring = as_tuples(ring)
        self.tail = as_tuples(tail)
        self.turns = as_tuples(turns)
        self.phase = as_tuples(phase)
        self.excess = as_tuples(excess)

    @property
    def walk_length(self):
        """How many nodes the lead and the window's walk have together."""
        return len(self.lead) + len(self.first) + len(self.ring) * self.turns + len(self.tail)

    @property
    def is_safe(self):
        """False."""
        return False

    def __eq__(self, other):
        return (isinstance(other, Breach) and self.group == other.group and self.end == other.end
                and self.up == other.up and self.down == other.down and self.opening == other.opening
                and self.lead == other.lead and self.first == other.first and self.ring == other.ring
                and self.tail == other.tail and self.turns == other.turns and self.phase == other.phase
                and self.excess == other.excess)


class Day:
    """Prices at the start, members (name, group, cash) and deeds."""

    def __init__(self, prices, members, deeds):
        self.prices = as_tuples(prices)
        self.members = as_tuples(members)
        self.deeds = as_tuples(deeds)

    def __eq__(self, other):
        return (isinstance(other, Day) and self.prices == other.prices and self.members == other.members
                and self.deeds == other.deeds)
