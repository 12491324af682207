"""[7.6] and the interface of coveredday.safe."""

import unittest

from coveredday.errors import BadEnd, NoAsset, NoGroup, SamePair
from coveredday.longest import potentials
from coveredday.safe import Safe
from coveredday.verdict import verdict
from tests.common import THINGS, Promises
from tests.plans import TABLES, chain_plan
from tests.test_longest import sums_of
from tests.test_phases import TWO_GROUPS

NUMBERS = ((("gap", "empty"), 3), ((None, "empty"), 0))
ROWS = (("firm", "free", "cash", "oil", ()), ("firm", "stand", "oil", "cash", NUMBERS),
        ("other", "stand", "rye", "tin", NUMBERS[:1]))


def safe_plan():
    """A plan whose house never pays: no group loses more than its cover table has."""
    steps = (("tell",), ("desk",), ("move", "day"), ("look", ("firm", "other")), ("close",))
    return chain_plan(*steps, groups=TWO_GROUPS, back="ne")


class TestSafe(Promises):
    def test_tuples_throughout(self):
        papers = [["firm", "free", "cash", "oil", []], ["firm", "stand", "oil", "cash", [[["gap", "empty"], 3], [[None, "empty"], 0]]],
                  ["other", "stand", "rye", "tin", [[["gap", "empty"], 3]]]]
        safe = Safe(papers)
        papers[1][4][0][0].pop()
        papers.pop()
        self.same(safe.papers, ROWS)
        self.same(Safe(()).papers, ())
        self.same(safe.is_safe, True)

    def test_one_row(self):
        for row in ROWS:
            self.same(Safe(ROWS).potential(*row[:4]), row[4])

    def test_errors_in_order(self):
        safe = Safe(ROWS)
        for thing in THINGS:
            self.fails(NoGroup, (thing,), safe.potential, thing, thing, thing, thing)
            self.fails(NoGroup, (thing,), Safe(()).potential, thing, thing, thing, thing)
            self.fails(BadEnd, (thing,), safe.potential, "firm", thing, thing, thing)
            if thing not in ("oil", "rye", "cash"):
                self.fails(NoAsset, (thing,), safe.potential, "other", "free", thing, "gold")
                self.fails(NoAsset, (thing,), safe.potential, "firm", "stand", "oil", thing)
        for asset in ("oil", "rye", "cash", "tin"):
            self.fails(SamePair, (asset,), safe.potential, "firm", "stand", asset, asset)
        for word in ("gold", "firm", "other", "free", "stand"):
            self.fails(NoAsset, (word,), safe.potential, "firm", "stand", word, word)
            self.fails(NoAsset, (word,), safe.potential, "firm", "stand", "oil", word)
        self.fails(NoGroup, ("more",), safe.potential, "more", "stand", "gold", "gold")

    def test_papers_of_a_verdict(self):
        plan = safe_plan()
        safe = verdict(plan)
        self.assertIs(type(safe), Safe)
        self.same([row[:4] for row in safe.papers], sums_of(plan))
        for row in safe.papers:
            self.same((safe.potential(*row[:4]), row[4]), (potentials(plan, *row[:4]),) * 2)
        self.fails(NoGroup, ("day",), safe.potential, "day", "free", "oil", "cash")
        self.same(len(TABLES), 2)


if __name__ == "__main__":
    unittest.main()
