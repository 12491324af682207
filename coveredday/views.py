"""Views: what is known of the true prices by what was told and by the walk since then."""

from coveredday.cover import cover_over, worst_moves
from coveredday.errors import BadView
from coveredday.fills import equity
from coveredday.moves import parting
from coveredday.names import check_same_goods, is_number_row
from coveredday.tablesums import total
from coveredday.walks import tables_along, walk_fault


def check_told(plan, told):
    """Raises BadView unless told, any object, are prices of any size."""
    if not is_number_row(told, len(plan.goods)):
        raise BadView("told")


def step_table(plan, node):
    """The table of the step of a node, or of the start; None unless prices move there."""
    if node is None or plan.kind(node) != "move":
        return None
    return plan.table_named(plan.step(node)[1])


def known(plan, told, walk, behind=None):
    """The view behind a walk, if these prices were told ahead of it; all but the plan are any objects."""
    check_told(plan, told)
    if behind is not None and (behind not in plan.node_names or plan.kind(behind) != "tell"):
        raise BadView("behind")
    if walk_fault(plan, walk, behind) is not None or any([plan.kind(node) == "tell" for node in walk]):
        raise BadView("walk")
    return View(plan, told, walk, behind)


class View:
    """The prices told at a node, or at the start, the walk since then, and how far prices can have parted on it."""

    def __init__(self, plan, told, walk, behind):
        self.told = tuple(told)
        self.walk = tuple(walk)
        self.behind = behind
        # The last node has been entered but not left: no edge tells of its move.
        last = step_table(plan, self.walk[-1]) if self.walk else None
        self.step_tables = tables_along(plan, self.walk, behind) + (() if last is None else (last,))
        self.sum_table = total(plan.goods, *self.step_tables)

    def bounds(self, up, down):
        """The least and the greatest of the true price of up less that of down; both are any objects."""
        apart = parting(self.sum_table.goods, self.told, up, down)
        return apart - self.sum_table[down, up], apart + self.sum_table[up, down]

    def loss(self, position):
        """The greatest that the position can have lost since the telling."""
        self._check_goods(position)
        return cover_over(position, *self.step_tables)

    def equities(self, cash, position):
        """The least and the greatest of the equity at the true prices."""
        self._check_goods(position)
        now = equity(cash, position, self.told)
        return now - self.loss(position), now + self.loss(-position)

    def worst_moves(self, position):
        """Moves by which the position loses the most, one within each step table."""
        self._check_goods(position)
        return worst_moves(position, *self.step_tables)

    def _check_goods(self, position):
        check_same_goods(self.sum_table.goods, position)
