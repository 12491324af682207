"""Long walks: walks by which something is lost, perhaps more with each turn of a ring."""

from coveredday.errors import BadTurns
from coveredday.names import is_integer


def check_turns(thing):
    """Raises BadTurns unless thing, any object, is a number of turns."""
    if not is_integer(thing) or thing < 0:
        raise BadTurns(thing)


class LongWalk:
    """An amount, or None if it is endless, and a walk behind a node, or behind the start."""

    def __init__(self, amount, behind, first, ring=(), tail=()):
        self.amount = amount
        self.behind = behind
        self.first = tuple(first)
        self.ring = tuple(ring)
        self.tail = tuple(tail)

    def gone(self, turns=0):
        """The walk with so many turns, any object, of the ring."""
        check_turns(turns)
        # Without a ring the number of turns may be too great for a repetition.
        turned = self.ring * turns if self.ring else ()
        return self.first + turned + self.tail

    @property
    def is_endless(self):
        """Whether each turn of the ring adds to the amount."""
        return self.amount is None
