"""Moves: how far the price of each good changes in one step."""

from coveredday.errors import BadMove
from coveredday.names import assets, check_asset, checked_goods, is_number_row, is_row


def still(goods):
    """The move in which no price changes."""
    return (0,) * len(checked_goods(goods))


def check_move(goods, move):
    """The move, any object, as a tuple."""
    told = checked_goods(goods)
    if not is_row(move, len(told)):
        raise BadMove("move")
    if not is_number_row(move, len(told)):
        raise BadMove("number")
    return tuple(move)


def _changes(goods, move):
    """By how much the price of each asset changes, cash included."""
    numbers = (0,) + check_move(goods, move)
    return dict(zip(assets(goods), numbers))


def parting(goods, move, up, down):
    """The change of up less the change of down."""
    changes = _changes(goods, move)
    known = assets(goods)
    check_asset(known, up)
    check_asset(known, down)
    return changes[up] - changes[down]


def _broken(rows, changes):
    """The first pair of the rows (up, down, most) that parts by more than most, or None."""
    for up, down, most in rows:
        if changes[up] - changes[down] > most:
            return up, down
    return None


def fits(move, table):
    """Whether the move, any object, lies within the table."""
    return _broken(table.rows, _changes(table.goods, move)) is None


def first_broken(move, table):
    """The first pair whose parting is above its closed entry, or None."""
    return _broken(table.entries, _changes(table.goods, move))


def extreme_move(table, up, down):
    """A move within the table that parts the pair by its closed entry; the same one for each up."""
    known = assets(table.goods)
    check_asset(known, up)
    check_asset(known, down)
    return tuple([table[good, down] - table["cash", down] for good in table.goods])
