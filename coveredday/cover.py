"""The cover of a position: the greatest loss by any move within a table."""

from coveredday.pairing import cost_of, pairing
from coveredday.worstmove import move_against, worst_move


class Cover:
    """An amount, with a pairing that costs it and a move that loses it; any objects."""

    def __init__(self, amount, pairs, move):
        self.amount = amount
        self.pairs = pairs
        self.move = move


def cover(position, table):
    """The cover of the position, with the pairing and the move that show it."""
    pairs = pairing(position, table)
    return Cover(cost_of(pairs, table), pairs, move_against(pairs, table))


def cover_amount(position, table):
    """The cover of the position alone."""
    return cost_of(pairing(position, table), table)


def cover_over(position, *tables):
    """The greatest loss by a row of moves, one within each table."""
    return sum([cover_amount(position, table) for table in tables])


def worst_moves(position, *tables):
    """A worst move for each table, in order."""
    return tuple([worst_move(position, table) for table in tables])
