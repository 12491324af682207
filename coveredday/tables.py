"""Tables: how far the price of one asset may rise above that of another in one step."""

from coveredday.closure import closed_sums
from coveredday.errors import BadTable, LowTable, OpenTable
from coveredday.names import MOST, assets, check_asset, check_same_goods, checked_goods, pairs_of
from coveredday.names import is_row, is_sequence, is_whole


def _row_fault(known, row, cap):
    """What is wrong with a row, any object, taken by itself, or None."""
    if not is_row(row, 3):
        return "row"
    up, down, most = row
    if up not in known:
        return "up"
    if down not in known:
        return "down"
    if up == down:
        return "same"
    if not is_whole(most, 0, cap):
        return "most"
    return None


def _checked_rows(known, rows, cap):
    """The rows, any object, as a tuple of tuples."""
    if not is_sequence(rows):
        raise BadTable(None, "rows")
    kept = []
    pairs = []
    for index, row in enumerate(rows):
        word = _row_fault(known, row, cap)
        if word is not None:
            raise BadTable(index, word)
        up, down, most = row
        if (up, down) in pairs:
            raise BadTable(index, "double")
        pairs.append((up, down))
        kept.append((up, down, most))
    return tuple(kept)


def made_table(goods, rows):
    """The table of these right rows, however great their numbers are."""
    return Table(goods, rows, cap=max([most for _, _, most in rows]))


def closed_table(goods, rows):
    """The table whose rows are the closed entries of these right rows."""
    return made_table(goods, made_table(goods, rows).entries)


class Table:
    """Rows (up, down, most) and their closed entries; it never changes."""

    def __init__(self, goods, rows, *, cap=MOST):
        self.goods = checked_goods(goods)
        self._assets = assets(self.goods)
        self.rows = _checked_rows(self._assets, rows, cap)
        self._sums = closed_sums(self._assets, self.rows)
        pairs = pairs_of(self._assets)
        for up, down in pairs:
            if (up, down) not in self._sums:
                raise OpenTable(up, down)
        self._entries = tuple([(up, down, self._sums[up, down]) for up, down in pairs])

    @classmethod
    def full(cls, goods, most, *, cap=MOST):
        """The table of all pairs, each with the number most."""
        rows = [(up, down, most) for up, down in pairs_of(assets(goods))]
        return cls(goods, rows, cap=cap)

    @property
    def entries(self):
        """The tuple of (up, down, closed entry), in the order of pairs."""
        return self._entries

    def chain(self, up, down):
        """A chain from up to down whose sum is the closed entry."""
        self._check_pair(up, down)
        chains = {up: (up,)}
        # Each asset is reached once, by a row of a least chain, so that rows of 0 lead round no ring.
        while down not in chains:
            for one, other, most in self.rows:
                if one in chains and other not in chains and self[up, one] + most == self[up, other]:
                    chains[other] = chains[one] + (other,)
        return chains[down]

    def within(self, other):
        """Whether no closed entry is above that of the other table."""
        return self.first_above(other) is None

    def first_above(self, other):
        """The first pair whose closed entry is above that in the other table, or None."""
        check_same_goods(self.goods, other)
        for up, down, most in self._entries:
            if most > other[up, down]:
                return up, down
        return None

    def lowered(self, up, down, by=1):
        """The table with the closed entry of this pair less by so much."""
        if self[up, down] < by:
            raise LowTable(up, down)
        rows = [(one, other, most - by if (one, other) == (up, down) else most) for one, other, most in self._entries]
        return closed_table(self.goods, rows)

    def _check_pair(self, up, down):
        check_asset(self._assets, up)
        check_asset(self._assets, down)

    def __getitem__(self, at):
        up, down = at
        self._check_pair(up, down)
        return self._sums[up, down]

    def __add__(self, other):
        check_same_goods(self.goods, other)
        return made_table(self.goods, [(up, down, most + other[up, down]) for up, down, most in self._entries])

    def __and__(self, other):
        check_same_goods(self.goods, other)
        return closed_table(self.goods, [(up, down, min(most, other[up, down])) for up, down, most in self._entries])

    def __or__(self, other):
        check_same_goods(self.goods, other)
        return made_table(self.goods, [(up, down, max(most, other[up, down])) for up, down, most in self._entries])

    def __eq__(self, other):
        return isinstance(other, Table) and self.goods == other.goods and self._entries == other._entries

    def __iter__(self):
        return iter(self.rows)
