"""The move by which a position loses its cover."""

from coveredday.closure import closed_sums
from coveredday.names import assets
from coveredday.pairing import pairing


def move_against(pairs, table):
    """A move within the table by which a pairing of least cost loses its cost."""
    # What is paired has to part just as far as the table lets it. The least sums to cash are
    # changes that keep all entries and these rows; they exist as no pairing costs less.
    apart = [(long, short, -table[short, long]) for long, short, _ in pairs]
    sums = closed_sums(assets(table.goods), list(table.entries) + apart)
    return tuple([sums[good, "cash"] for good in table.goods])


def worst_move(position, table):
    """A move within the table by which the position loses its cover."""
    return move_against(pairing(position, table), table)
