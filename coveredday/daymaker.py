"""Days on which the house pays what a breach shows."""

from coveredday.errors import BadBreach, TooLong
from coveredday.moves import extreme_move
from coveredday.position import Position
from coveredday.verdictjudge import breach_fault
from coveredday.windowday import MOST_STEPS, window_day
from coveredday.windows import Window


def _pair_position(goods, up, down):
    """One piece of down against one of up, without cash."""
    return Position(goods, [int(good == down) - int(good == up) for good in goods])


def day_of(plan, breach):
    """A day on which the house pays just the excess of the breach, a Breach of any objects, for member a."""
    word = breach_fault(plan, breach)
    if word is not None:
        raise BadBreach(word)
    if breach.walk_length > MOST_STEPS:
        raise TooLong(breach.walk_length)
    walk = breach.first + breach.ring * breach.turns + breach.tail
    window = Window(breach.group, breach.opening, walk, breach.end)
    position = _pair_position(plan.goods, breach.up, breach.down)
    return window_day(plan, window, breach.lead, position, lambda table: extreme_move(table, breach.up, breach.down))
