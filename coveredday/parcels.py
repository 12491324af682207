"""Parcels: names for fixed contents of goods and of earlier parcels."""

from coveredday.errors import BadParcels, NoThing
from coveredday.names import checked_goods, is_row, is_sequence, is_thing_name, is_whole
from coveredday.position import Position

_MOST_ROWS = 6
_MOST_CONTENTS = 4
_MOST_PIECES = 1000


def _contents_fault(aparts, contents):
    """What is wrong with the contents of a parcel behind the things in aparts, or None."""
    if not is_sequence(contents) or not 1 <= len(contents) <= _MOST_CONTENTS:
        return "contents"
    told = []
    for entry in contents:
        if not is_row(entry, 2) or entry[0] not in list(aparts) or entry[0] in told:
            return "thing"
        told.append(entry[0])
    for _, count in contents:
        if not is_whole(count, -_MOST_PIECES, _MOST_PIECES) or count == 0:
            return "count"
    if _sum_apart(aparts, contents).is_flat:
        return "flat"
    return None


def _row_fault(aparts, row):
    """What is wrong with the row of a parcel behind the things in aparts, or None."""
    if not is_row(row, 2):
        return "row"
    name, contents = row
    if not is_thing_name(name):
        return "name"
    if name in aparts:
        return "double"
    return _contents_fault(aparts, contents)


def _sum_apart(aparts, contents):
    """The position that the contents are, apart; they are not empty."""
    positions = [aparts[thing] * count for thing, count in contents]
    whole = positions[0]
    for position in positions[1:]:
        whole = whole + position
    return whole


class Parcels:
    """The goods and the parcels of a market; they never change."""

    def __init__(self, goods, rows=()):
        self.goods = checked_goods(goods)
        if not is_sequence(rows) or len(rows) > _MOST_ROWS:
            raise BadParcels(None, "rows")
        self._aparts = {good: Position.single(self.goods, good) for good in self.goods}
        kept = []
        for index, row in enumerate(rows):
            word = _row_fault(self._aparts, row)
            if word is not None:
                raise BadParcels(index, word)
            name, contents = row
            self._aparts[name] = _sum_apart(self._aparts, contents)
            kept.append((name, tuple([tuple(entry) for entry in contents])))
        self.rows = tuple(kept)

    @property
    def things(self):
        """All things, in their order."""
        return self.goods + tuple([name for name, _ in self.rows])

    def contents(self, parcel):
        """The pairs (thing, count) that one piece of the parcel, any object, holds."""
        for name, contents in self.rows:
            if name == parcel:
                return contents
        raise NoThing(parcel)

    def apart(self, thing, count=1):
        """The position of so many pieces of the thing, any object."""
        if thing not in self.things:
            raise NoThing(thing)
        return self._aparts[thing] * count

    def worth(self, thing, prices):
        """The worth of one piece of the thing at the prices."""
        return self.apart(thing).worth(prices)

    def __eq__(self, other):
        return isinstance(other, Parcels) and self.goods == other.goods and self.rows == other.rows
