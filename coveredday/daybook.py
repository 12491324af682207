"""The day book: what happened in a house, in order."""

from coveredday.names import as_tuples


def _cash_change(happening, member):
    """By how much one happening changes the cash of the member."""
    if happening[0] in ("filled", "traded"):
        _, buyer, seller, _, count, price = happening
        sold = count * price if seller == member else 0
        bought = count * price if buyer == member else 0
        return sold - bought
    if happening[0] in ("paid_in", "paid_out", "closed", "paid") and happening[1] == member:
        return -happening[2] if happening[0] == "paid_out" else happening[2]
    return 0


class DayBook:
    """Happenings; it never changes."""

    def __init__(self, happenings):
        self._rows = as_tuples(happenings)

    def of(self, word):
        """The happenings that begin with this word."""
        return tuple([row for row in self._rows if row[0] == word])

    def since(self, count):
        """All happenings behind the first so many."""
        return self._rows[count:]

    def cash_change(self, member):
        """By how much the happenings changed the cash of the member."""
        return sum([_cash_change(row, member) for row in self._rows])

    def __eq__(self, other):
        return isinstance(other, DayBook) and self._rows == other._rows

    def __iter__(self):
        return iter(self._rows)

    def __len__(self):
        return len(self._rows)
