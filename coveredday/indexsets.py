"""Sets of indices, as ascending tuples; the small ones first, then as tuples are ordered."""


def index_sets(count):
    """All sets of indices below count."""
    sets = [tuple([index for index in range(count) if mask >> index & 1]) for mask in range(1 << count)]
    return tuple(sorted(sets, key=lambda indices: (len(indices), indices)))


def is_within(indices, others):
    """Whether all of these indices are among the others."""
    return all([index in others for index in indices])


def least_sets(count, is_enough):
    """The sets of indices below count that are enough while no proper subset is; is_enough tells it of a set."""
    found = []
    for indices in index_sets(count):
        # All proper subsets came earlier: the set is needed only if it contains none that is enough.
        if not any([is_within(enough, indices) for enough in found]) and is_enough(indices):
            found.append(indices)
    return tuple(found)
