"""The search for shortest rows of steps."""


def _further(rows, fresh, leads):
    """Adds to the rows those of the states that one step more reaches, and returns the list of these states."""
    later = []
    for state in fresh:
        for step, other in leads(state):
            if other not in rows:
                rows[other] = rows[state] + (step,)
                later.append(other)
    return later


def shortest_rows(starts, leads):
    """For each state to which steps lead from the starts a shortest row of them: a dict, the nearest states first.

    leads(state) gives the pairs (step, state behind it), and the row is the tuple of the steps.
    """
    rows = {start: () for start in starts}
    fresh = list(rows)
    while fresh:
        fresh = _further(rows, fresh, leads)
    return rows
