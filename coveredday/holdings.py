"""Holdings: how many pieces of each thing are held, or owed."""

from coveredday.errors import NoThing, NotHeld
from coveredday.names import MOST_COUNT, is_whole
from coveredday.position import Position


class Holdings:
    """Pieces of the things of a market, at first none."""

    def __init__(self, parcels):
        self.parcels = parcels
        self.clear()

    def put(self, thing, count):
        """Changes the pieces of the thing by any whole number."""
        self._check_thing(thing)
        self._change([(thing, count)], 1)

    def count_of(self, thing):
        """The pieces of the thing, any object."""
        self._check_thing(thing)
        return self._pieces[thing]

    def take_apart(self, parcel, count):
        """Turns so many pieces of the parcel into their contents."""
        if not is_whole(count, 1, self.greatest_apart(parcel)):
            raise NotHeld(parcel, count)
        self._turn(parcel, count)

    def put_together(self, parcel, count):
        """Turns contents into so many pieces of the parcel."""
        if not is_whole(count, 1, self.greatest_together(parcel)):
            raise NotHeld(parcel, count)
        self._turn(parcel, -count)

    def greatest_apart(self, parcel):
        """How many pieces of the parcel can be taken apart in one call."""
        self.parcels.contents(parcel)
        return max(0, min(MOST_COUNT, self._pieces[parcel]))

    def greatest_together(self, parcel):
        """How many pieces of the parcel can be put together in one call."""
        # Of either sign, n * count is there as long as n is at most pieces // count.
        rooms = [self._pieces[thing] // count for thing, count in self.parcels.contents(parcel)]
        return max(0, min(MOST_COUNT, min(rooms)))

    def all_apart(self):
        """Takes all parcels apart, the last one first; the pairs (parcel, count)."""
        taken = []
        for parcel, _ in self.parcels.rows[::-1]:
            count = self._pieces[parcel]
            if count > 0:
                self._turn(parcel, count)
                taken.append((parcel, count))
        return tuple(taken)

    def position_now(self):
        """The position that the pieces are now."""
        position = Position.flat(self.parcels.goods)
        for thing, count in self._rows:
            position = position + self.parcels.apart(thing, count)
        return position

    def clear(self):
        """All pieces become 0."""
        self._pieces = {thing: 0 for thing in self.parcels.things}
        self._rows = ()

    def copied(self):
        """New holdings that go on by themselves."""
        holdings = Holdings(self.parcels)
        holdings._change(self._rows, 1)
        return holdings

    def _check_thing(self, thing):
        if thing not in self.parcels.things:
            raise NoThing(thing)

    def _turn(self, parcel, count):
        """Turns pieces of the parcel into contents; of a count below 0, contents into pieces."""
        self._change([(parcel, -1)], count)
        self._change(self.parcels.contents(parcel), count)

    def _change(self, rows, times):
        """Changes the pieces by the rows (thing, count), so many times."""
        for thing, count in rows:
            self._pieces[thing] = self._pieces[thing] + count * times
        # A tuple is replaced as a whole, so that an iteration stays as it was.
        held = [(thing, self._pieces[thing]) for thing in self.parcels.things]
        self._rows = tuple([(thing, pieces) for thing, pieces in held if pieces != 0])

    def __iter__(self):
        return iter(self._rows)
