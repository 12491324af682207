"""Days on which a member loses what a need tells."""

from coveredday.errors import NoWindow, TooLong
from coveredday.longwalk import check_turns
from coveredday.phases import lead_to
from coveredday.windowday import MOST_STEPS, window_day
from coveredday.windows import Window
from coveredday.worstmove import worst_move


def day_of_need(plan, told, turns=0):
    """A day on which the first member loses what the window of a need with so many turns, any object, lets it lose."""
    check_turns(turns)
    if told.opening is None:
        raise NoWindow("opening")
    lead = lead_to(plan, told.opening)
    steps = len(lead) + len(told.first) + len(told.ring) * turns + len(told.tail)
    if steps > MOST_STEPS:
        raise TooLong(steps)
    window = Window(told.group, told.opening, told.gone(turns), told.end)
    return window_day(plan, window, lead, told.position, lambda table: worst_move(told.position, table))
