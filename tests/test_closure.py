"""[3.2] and the interface of coveredday.closure."""

import random
import unittest
from itertools import permutations

from coveredday.closure import closed_sums
from tests.common import Promises, random_rows

EXAMPLE = (("cash", "oil", 2), ("oil", "cash", 3), ("oil", "rye", 1), ("rye", "oil", 1), ("rye", "cash", 9))


def least_sums(assets, rows):
    """The least sums over all chains, found one by one."""
    mosts = {(up, down): most for up, down, most in rows}
    sums = {}
    for length in range(1, len(assets) + 1):
        for chain in permutations(assets, length):
            steps = list(zip(chain, chain[1:]))
            if all(step in mosts for step in steps):
                pair = chain[0], chain[-1]
                sums[pair] = min(sums.get(pair, 10 ** 50), sum(mosts[step] for step in steps))
    return sums


class TestClosedSums(Promises):
    def test_the_example(self):
        sums = closed_sums(("cash", "oil", "rye"), EXAMPLE)
        self.assertEqual(sums, {
            ("cash", "cash"): 0, ("cash", "oil"): 2, ("cash", "rye"): 3, ("oil", "cash"): 3, ("oil", "oil"): 0,
            ("oil", "rye"): 1, ("rye", "cash"): 4, ("rye", "oil"): 1, ("rye", "rye"): 0})

    def test_pairs_without_a_chain_are_no_keys(self):
        self.assertEqual(closed_sums(("cash", "oil"), ()), {("cash", "cash"): 0, ("oil", "oil"): 0})
        self.assertEqual(closed_sums(("a", "b", "c"), [["a", "b", 0], ["c", "b", 4]]), {
            ("a", "a"): 0, ("b", "b"): 0, ("c", "c"): 0, ("a", "b"): 0, ("c", "b"): 4})

    def test_against_all_chains(self):
        chance = random.Random(32)
        for count in range(1, 6):
            goods = ("a", "b", "c", "d", "e")[:count]
            assets = ("cash",) + goods
            for _ in range(25):
                rows = random_rows(chance, goods, (0, 0, 1, 2, 5, 10 ** 30))
                rows = [row for row in rows if chance.random() < 0.8]
                self.assertEqual(closed_sums(assets, rows), least_sums(assets, rows))

    def test_a_long_chain(self):
        names = tuple("abcdefghijkl")
        rows = [(one, other, 1) for one, other in zip(names, names[1:])] + [("a", "l", 12)]
        self.same(closed_sums(names, rows)["a", "l"], 11)

    def test_each_dict_is_new_and_the_rows_stay(self):
        rows = [list(row) for row in EXAMPLE]
        first = closed_sums(("cash", "oil", "rye"), rows)
        first["cash", "oil"] = 77
        self.same(rows, [list(row) for row in EXAMPLE])
        self.same(closed_sums(("cash", "oil", "rye"), rows)["cash", "oil"], 2)


if __name__ == "__main__":
    unittest.main()
