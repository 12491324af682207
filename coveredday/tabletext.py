"""Texts of tables."""

from coveredday.errors import BadGoods, BadTable, BadText, OpenTable
from coveredday.names import assets, checked_goods
from coveredday.tables import Table

_DIGITS = "0123456789"
_MOST_DIGITS = 30
_CAP = 10 ** 30


def row_lines(table):
    """The lines of the rows of a table."""
    return [f"{up} over {down} {most}" for up, down, most in table.rows]


def goods_line(goods):
    """The line of the goods."""
    return " ".join(("goods",) + goods)


def table_text(table):
    """The text of a table."""
    return "\n".join([goods_line(table.goods)] + row_lines(table))


def words_of(text):
    """The words of each line of text, any object."""
    if not isinstance(text, str):
        raise BadText(0, "text")
    return [line.split(" ") for line in text.split("\n")]


def read_goods(words):
    """The goods that the words of line 1 tell."""
    try:
        goods = checked_goods(words[1:])
    except BadGoods:
        goods = ()
    if words[0] != "goods" or not goods:
        raise BadText(1, "goods")
    return goods


def is_row_line(words):
    """Whether these are the words of a row of a table."""
    return len(words) == 4 and words[1] == "over"


def read_row(line, words):
    """The row of a table that the words of this line, a row line, tell."""
    up, _, down, word = words
    is_long = len(word) > _MOST_DIGITS or (len(word) > 1 and word[0] == "0")
    if is_long or word == "" or not all([digit in _DIGITS for digit in word]):
        raise BadText(line, "most")
    return up, down, int(word)


def read_rows(goods, rows, line):
    """The table of these pairs (line, row); its goods, or its name, stand in this line."""
    try:
        return Table(goods, [row for _, row in rows], cap=_CAP)
    except BadTable as wrong:
        raise BadText(rows[wrong.index][0], wrong.what) from wrong
    except OpenTable as gap:
        raise BadText(line, "open") from gap


def read_table(text):
    """The table of a text, any object."""
    lines = words_of(text)
    goods = read_goods(lines[0])
    rows = []
    for line, words in enumerate(lines[1:], start=2):
        if not is_row_line(words):
            raise BadText(line, "row")
        rows.append((line, read_row(line, words)))
    return read_rows(goods, rows, 1)


def table_lines(table):
    """The lines of the closed entries of a table in columns."""
    known = assets(table.goods)
    lines = [" " * 12 + "".join([asset.rjust(18) for asset in known])]
    for up in known:
        cells = ["-" if up == down else f"{table[up, down]:,}" for down in known]
        lines.append(up.ljust(12) + "".join([cell.rjust(18) for cell in cells]))
    return tuple(lines)
