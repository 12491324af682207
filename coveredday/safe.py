"""The papers which show that the house never pays."""

from coveredday.errors import NoGroup
from coveredday.names import as_tuples
from coveredday.sums import check_end, check_pair


class Safe:
    """Rows (group, end, up, down, potentials)."""

    def __init__(self, papers):
        self.papers = as_tuples(papers)

    @property
    def is_safe(self):
        """True."""
        return True

    def potential(self, group, end, up, down):
        """The potentials of one row; all arguments are any objects."""
        if group not in [row[0] for row in self.papers]:
            raise NoGroup(group)
        check_end(end)
        check_pair([asset for row in self.papers for asset in row[2:4]], up, down)
        found = [row[4] for row in self.papers if row[:4] == (group, end, up, down)]
        return found[0]
