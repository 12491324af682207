"""The search for shortest rows of steps, on which walks, states and ways rest."""

import random

from coveredday.search import shortest_rows
from tests.common import Promises


class TestShortestRows(Promises):
    def test_against_all_rows_of_steps(self):
        chance = random.Random(100)
        for _ in range(200):
            count = chance.randint(1, 7)
            arcs = {one: [(chance.choice("xyz"), chance.randrange(count)) for _ in range(chance.randint(0, 3))]
                    for one in range(count)}
            starts = chance.sample(range(count), chance.randint(0, min(count, 3)))
            before = repr((arcs, starts))
            rows = shortest_rows(starts, lambda state: arcs[state])
            self.same((arcs, starts), eval(before))
            lengths = [len(row) for row in rows.values()]
            self.assertEqual(lengths, sorted(lengths))
            reached = {start: {()} for start in starts}
            for length in range(count):
                self.assertEqual({state for state in rows if len(rows[state]) == length},
                          {state for state in reached if min(map(len, reached[state])) == length})
                for state in list(reached):
                    for row in [row for row in reached[state] if len(row) == length]:
                        for step, other in arcs[state]:
                            reached.setdefault(other, set()).add(row + (step,))
            for state, row in rows.items():
                self.assertIn(row, reached[state])

    def test_no_state_is_asked_twice(self):
        asked = []

        def leads(state):
            asked.append(state)
            return [(1, (state + 1) % 5), (2, (state + 2) % 5)]

        self.same(shortest_rows([3], leads), {3: (), 4: (1,), 0: (2,), 1: (1, 2), 2: (2, 2)})
        self.same(asked, [3, 4, 0, 1, 2])
