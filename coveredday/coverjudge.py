"""Judges of covers: they know nothing of how a cover is found."""

from coveredday.moves import first_broken
from coveredday.names import assets, check_same_goods, is_integer, is_number_row, is_row, is_sequence
from coveredday.pairing import cost_of


def pairs_fault(position, pairs):
    """What is wrong with pairs, any object, as a pairing of the position, or None."""
    if not is_sequence(pairs) or not all([is_row(entry, 3) for entry in pairs]):
        return "pairs"
    known = assets(position.goods)
    if not all([long in known and short in known for long, short, _ in pairs]):
        return "asset"
    if not all([position[long] > 0 for long, _, _ in pairs]):
        return "long"
    if not all([position[short] < 0 for _, short, _ in pairs]):
        return "short"
    if not all([is_integer(count) and count >= 1 for _, _, count in pairs]):
        return "count"
    for asset in known:
        if sum([count for long, short, count in pairs if asset in (long, short)]) != abs(position[asset]):
            return "sum"
    return None


def move_fault(table, move):
    """What is wrong with move, any object, as a move within the table, or None."""
    if not is_number_row(move, len(table.goods)):
        return "move"
    if first_broken(move, table) is not None:
        return "broken"
    return None


def cover_fault(position, table, told):
    """What is wrong with a Cover of any objects as the cover of the position, or None."""
    check_same_goods(position.goods, table)
    word = pairs_fault(position, told.pairs)
    if word is not None:
        return word
    if not is_integer(told.amount) or told.amount != cost_of(told.pairs, table):
        return "cost"
    word = move_fault(table, told.move)
    if word is not None:
        return word
    if position.loss(told.move) != told.amount:
        return "loss"
    return None
