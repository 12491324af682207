"""Texts of plans."""

from coveredday.errors import BadText
from coveredday.plan import PLAIN_KINDS, Plan
from coveredday.tabletext import goods_line, is_row_line, read_goods, read_row, read_rows, row_lines, words_of

_ARROW = "->"
# Lines of a kind stand behind all lines of kinds with lesser numbers.
_ORDER = {"table": 0, "row": 0, "group": 1, "node": 2}


def _step_words(step):
    """The words of a step."""
    if step[0] == "look":
        return ("look",) + step[1]
    return step


def _follower_word(follower):
    """The word of a follower (node, calm)."""
    node, calm = follower
    return node if calm is None else f"{node}/{calm}"


def plan_text(plan):
    """The text of a plan."""
    lines = [goods_line(plan.goods)]
    for name, table in plan.tables:
        lines.extend([f"table {name}"] + row_lines(table))
    lines.extend([f"group {name} {table}" for name, table in plan.groups])
    for name, step, followers in plan.nodes:
        words = ("node", name) + _step_words(step) + (_ARROW,) + tuple([_follower_word(row) for row in followers])
        lines.append(" ".join(words))
    return "\n".join(lines)


def _kind_of(words):
    """The kind of a line behind line 1, or None."""
    if is_row_line(words):
        return "row"
    if len(words) == 2 and words[0] == "table":
        return "table"
    if len(words) == 3 and words[0] == "group":
        return "group"
    # Of the words from the fourth to the last but one, one is the arrow.
    return "node" if words[0] == "node" and _ARROW in words[3:-1] else None


def _read_step(line, words):
    """The step that these words of a node line tell."""
    if words[0] == "move" and len(words) == 2:
        return tuple(words)
    if words[0] == "look" and len(words) > 1:
        return "look", tuple(words[1:])
    if words[0] in PLAIN_KINDS and len(words) == 1:
        return tuple(words)
    raise BadText(line, "step")


def _read_follower(line, word):
    """The follower that this word of a node line tells."""
    parts = word.split("/")
    if len(parts) > 2:
        raise BadText(line, "follower")
    return parts[0], parts[1] if len(parts) == 2 else None


def _read_node(line, words):
    """The node that the words of this line, a node line, tell."""
    arrow = 3 + words[3:].index(_ARROW)
    step = _read_step(line, words[2:arrow])
    return words[1], step, [_read_follower(line, word) for word in words[arrow + 1:]]


def read_plan(text):
    """The plan of a text, any object."""
    lines = words_of(text)
    goods = read_goods(lines[0])
    last = 0
    tables = []
    groups = []
    nodes = []
    for line, words in enumerate(lines[1:], start=2):
        kind = _kind_of(words)
        if kind is None:
            raise BadText(line, "line")
        if _ORDER[kind] < last or (kind == "row" and not tables):
            raise BadText(line, "order")
        last = _ORDER[kind]
        if kind == "table":
            tables.append((line, words[1], []))
        elif kind == "row":
            tables[-1][2].append((line, read_row(line, words)))
        elif kind == "group":
            groups.append(words[1:])
        else:
            nodes.append(_read_node(line, words))
    made = [(name, read_rows(goods, rows, at)) for at, name, rows in tables]
    return Plan(goods, made, groups, nodes)
