"""Which plans need the same cover tables, and a day that shows where two of them do not."""

from coveredday.changes import alone
from coveredday.daymaker import day_of
from coveredday.errors import OtherGroups
from coveredday.least import least_table
from coveredday.names import check_same_goods
from coveredday.verdict import verdict


class Alike:
    """Two plans whose groups have the same least tables: rows (group, least table or None)."""

    def __init__(self, least):
        self.least = tuple(least)

    @property
    def is_alike(self):
        """True."""
        return True


class Unlike:
    """A cover table that is enough for the group in one of two plans, and the breach in the other one."""

    def __init__(self, group, cover, safe, pair, plan, breach):
        self.group = group
        self.cover = cover
        self.safe = safe
        self.pair = pair
        self.plan = plan
        self.breach = breach

    @property
    def is_alike(self):
        """False."""
        return False

    def day(self):
        """A day on which the house pays in the plan with this cover table."""
        return day_of(self.plan, self.breach)


def _first_apart(one, other):
    """The first pair whose entries in two unlike tables differ, and which of them, 0 or 1, has the lesser one."""
    for up, down, most in one.entries:
        if most != other[up, down]:
            return (up, down), int(most > other[up, down])
    return None


def _unlike(plans, group, tables):
    """The Unlike of two plans whose least tables of this group, of which one may be None, differ."""
    if tables[0] is None or tables[1] is None:
        pair, safe = None, int(tables[0] is None)
    else:
        pair, safe = _first_apart(tables[0], tables[1])
    plan = alone(plans[1 - safe], group, tables[safe])
    return Unlike(group, tables[safe], safe, pair, plan, verdict(plan))


def alike(one, other):
    """An Alike, or an Unlike about the first group whose least tables differ."""
    check_same_goods(one.goods, other)
    if one.group_names != other.group_names:
        raise OtherGroups()
    least = []
    for group in one.group_names:
        tables = (least_table(one, group), least_table(other, group))
        if tables[0] != tables[1]:
            return _unlike((one, other), group, tables)
        least.append((group, tables[0]))
    return Alike(least)
