"""Positions: how many pieces of each good are held, or owed."""

from coveredday.errors import BadPosition, BadPrices, NoAsset
from coveredday.names import check_same_goods, checked_goods, is_integer, is_number_row, is_row


class Position:
    """A count for each good; it never changes."""

    def __init__(self, goods, counts):
        self.goods = checked_goods(goods)
        if not is_row(counts, len(self.goods)):
            raise BadPosition("counts")
        if not is_number_row(counts, len(self.goods)):
            raise BadPosition("count")
        self.counts = tuple(counts)
        self._rows = tuple(zip(self.goods, self.counts))

    @classmethod
    def flat(cls, goods):
        """The position without any piece."""
        told = checked_goods(goods)
        return cls(told, (0,) * len(told))

    @classmethod
    def single(cls, goods, good, count=1):
        """So many pieces of one good and none of the others."""
        told = checked_goods(goods)
        if good not in told:
            raise NoAsset(good)
        return cls(told, [count if one == good else 0 for one in told])

    @property
    def is_flat(self):
        """Whether all counts are 0."""
        return not any(self.counts)

    def worth(self, prices):
        """The sum of count times price."""
        if not is_number_row(prices, len(self.goods)):
            raise BadPrices()
        return sum([count * price for count, price in zip(self.counts, prices)])

    def loss(self, move):
        """What the position loses by a move."""
        return -self.worth(move)

    def __getitem__(self, at):
        if at == "cash":
            return -sum(self.counts)
        for good, count in self._rows:
            if good == at:
                return count
        raise NoAsset(at)

    def __add__(self, other):
        check_same_goods(self.goods, other)
        return Position(self.goods, [one + two for one, two in zip(self.counts, other.counts)])

    def __sub__(self, other):
        check_same_goods(self.goods, other)
        return Position(self.goods, [one - two for one, two in zip(self.counts, other.counts)])

    def __neg__(self):
        return Position(self.goods, [-count for count in self.counts])

    def __mul__(self, other):
        if not is_integer(other):
            return NotImplemented
        return Position(self.goods, [count * other for count in self.counts])

    def __eq__(self, other):
        return isinstance(other, Position) and self.goods == other.goods and self.counts == other.counts

    def __iter__(self):
        return iter(self._rows)
