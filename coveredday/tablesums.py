"""Several tables put together, and the moves that part a pair most under each of them."""

from coveredday.moves import extreme_move
from coveredday.names import assets, check_same_goods, checked_goods, pairs_of
from coveredday.tables import closed_table, made_table


def total(goods, *tables):
    """The table whose entries are the sums of the closed entries of all tables."""
    told = checked_goods(goods)
    check_same_goods(told, *tables)
    rows = [(up, down, sum([table[up, down] for table in tables])) for up, down in pairs_of(assets(told))]
    return made_table(told, rows)


def all_at_once(table, *others):
    """The table in which all of these tables hold."""
    check_same_goods(table.goods, *others)
    rows = [(up, down, min([most] + [other[up, down] for other in others])) for up, down, most in table.entries]
    return closed_table(table.goods, rows)


def greatest(table, *others):
    """The table whose entries are the greatest of all closed entries."""
    check_same_goods(table.goods, *others)
    rows = [(up, down, max([most] + [other[up, down] for other in others])) for up, down, most in table.entries]
    return made_table(table.goods, rows)


def extreme_moves(up, down, *tables):
    """The extreme move of each table, in order."""
    if tables:
        check_same_goods(tables[0].goods, *tables)
    return tuple([extreme_move(table, up, down) for table in tables])
