"""Pairings: all that a position is long in set against all that it is short in, at the least cost."""

from coveredday.names import assets, check_asset, check_same_goods


def _least_labels(starts, steps):
    """For each asset to which steps lead from the starts: the least label (cost, length, path).

    Of paths of one cost the shortest one counts: this bounds how often a path is asked for,
    however great the counts are. No steps lead back to their beginning at a cost below 0.
    """
    labels = {start: (0, 1, (start,)) for start in starts}
    settled = False
    while not settled:
        settled = True
        for one, other, cost in steps:
            if one in labels:
                label = (labels[one][0] + cost, labels[one][1] + 1, labels[one][2] + (other,))
                if other not in labels or label < labels[other]:
                    labels[other] = label
                    settled = False
    return labels


def _cheapest_path(left, flow, table):
    """The cheapest way to pair more: it goes from an asset with pieces long that are left by turns to
    a short asset and, giving back what was paired, to a long one, and ends with short pieces that are left."""
    steps = [(long, short, table[short, long]) for long, short in flow]
    steps = steps + [(short, long, -table[short, long]) for long, short in flow if flow[long, short] > 0]
    labels = _least_labels([asset for asset in left if left[asset] > 0], steps)
    return min([labels[asset] for asset in left if left[asset] < 0])[2]


def _pair_along(left, flow, path):
    """Pairs as many pieces along the path as can be."""
    paired = list(zip(path[::2], path[1::2]))
    given = list(zip(path[2::2], path[1::2]))
    count = min([left[path[0]], -left[path[-1]]] + [flow[pair] for pair in given])
    for pair in paired:
        flow[pair] = flow[pair] + count
    for pair in given:
        flow[pair] = flow[pair] - count
    left[path[0]] = left[path[0]] - count
    left[path[-1]] = left[path[-1]] + count


def pairing(position, table):
    """A pairing of least cost, in the order of its pairs."""
    check_same_goods(position.goods, table)
    known = assets(position.goods)
    left = {asset: position[asset] for asset in known}
    longs = [asset for asset in known if left[asset] > 0]
    shorts = [asset for asset in known if left[asset] < 0]
    flow = {(long, short): 0 for long in longs for short in shorts}
    while any([left[asset] for asset in longs]):
        _pair_along(left, flow, _cheapest_path(left, flow, table))
    return tuple([(long, short, flow[long, short]) for long, short in flow if flow[long, short] > 0])


def cost_of(pairs, table):
    """What the entries (long, short, count) cost, whatever position they belong to."""
    known = assets(table.goods)
    costs = []
    for long, short, count in pairs:
        check_asset(known, long)
        check_asset(known, short)
        costs.append(count * table[short, long])
    return sum(costs)
