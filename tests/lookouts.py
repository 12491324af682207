"""What the tests of views, sights and calls share, worked out anew: moves, covers and walks of small plans."""

from tests.common import moves_within


def plain_sight(plan, group, node):
    step = plan.step(node)
    if step[0] == "look":
        return "look" if group in step[1] else None
    return step[0] if step[0] in ("tell", "desk", "free", "close") else None


def followers_of(plan, node):
    """The pairs (follower, calm) of a node, or of None."""
    return [(plan.nodes[0][0], None)] if node is None else [row[2] for row in plan.nodes if row[0] == node][0]


class Moves:
    """All moves of a small plan: of a node that is entered, and of one that is left, too."""

    def __init__(self, plan):
        self.plan = plan
        self.within = {name: set(moves_within(table)) for name, table in plan.tables}

    def of_step(self, node):
        """The moves with which a node can be entered; None where prices stand."""
        step = None if node is None else self.plan.step(node)
        return self.within[step[1]] if step is not None and step[0] == "move" else None

    def of_edge(self, one, other):
        """The moves with which a node can have been entered that is left to the other."""
        moves = self.of_step(one)
        calms = [calm for node, calm in followers_of(self.plan, one) if node == other]
        return moves if moves is None or calms[0] is None else moves & self.within[calms[0]]

    def along(self, walk):
        """The moves of each move node of a walk, in order: the last node is entered, but not left."""
        rows = [self.of_edge(one, other) for one, other in zip(walk, walk[1:])]
        rows += [self.of_step(walk[-1])] if walk else []
        return [row for row in rows if row is not None]

    def changes(self, walk):
        """All changes of the prices by the walk."""
        found = {(0,) * len(self.plan.goods)}
        for moves in self.along(walk):
            found = {tuple(map(sum, zip(one, move))) for one in found for move in moves}
        return found


def worst(counts, moves):
    """The greatest loss of counts of goods by one of these moves; 0 without moves."""
    return 0 if moves is None else max(-sum(count * change for count, change in zip(counts, move)) for move in moves)


def apart(prices, goods, up, down):
    named = dict(zip(goods, prices), cash=0)
    return named[up] - named[down]


def walks_behind(plan, behind, length, stops=()):
    """All walks behind a node of at most so many nodes, none of them of a kind in stops."""
    walks = [()]
    for walk in walks:
        if len(walk) < length:
            near = followers_of(plan, walk[-1] if walk else behind)
            walks += [walk + (node,) for node, _ in near if plan.kind(node) not in stops]
    return walks


def last_telling(plan, walk):
    """The node of the last telling of a walk from the start, or None, and the part behind it."""
    places = [at for at, node in enumerate(walk) if plan.kind(node) == "tell"]
    return (walk[places[-1]], walk[places[-1] + 1:]) if places else (None, walk)


def telling_places(plan, group, seen):
    """The nodes at which the last telling can have been behind these sights, and what was seen behind it."""
    if "tell" not in seen:
        return {None}, tuple(seen)
    at = len(seen) - 1 - list(seen)[::-1].index("tell")
    return {node for node in stands(plan, group, seen[:at + 1]) if node is not None and plan.kind(node) == "tell"}, tuple(seen[at + 1:])


def stands(plan, group, seen):
    """The places at which a day can stand behind these sights."""
    places = {None}
    for word in tuple(seen) + (None,):
        while True:
            more = {node for place in places for node, _ in followers_of(plan, place) if plain_sight(plan, group, node) is None}
            if more <= places:
                break
            places |= more
        if word is not None:
            places = {node for place in places for node, _ in followers_of(plan, place) if plain_sight(plan, group, node) == word}
    return places


def raised_losses(plan, group, seen, weigh_edge, weigh_step):
    """The greatest sum along walks since the last telling that agree, by walks of more and more nodes: None if it
    goes on growing."""
    starts, since = telling_places(plan, group, seen)
    best = {(0, node): 0 for node in starts}
    rows = dict(best)
    states = (len(since) + 1) * (len(plan.nodes) + 1)
    tops = []
    for _ in range(2 * states + 2):
        tops.append(max([number + weigh_step(node) for (count, node), number in best.items() if count == len(since)], default=None))
        late = {}
        for (count, node), number in rows.items():
            for other, _ in followers_of(plan, node):
                word = plain_sight(plan, group, other)
                if word is None or since[count:count + 1] == (word,):
                    state = (count + (word is not None), other)
                    late[state] = max(late.get(state, 0), number + weigh_edge(node, other))
        rows = late
        best = {state: max(best.get(state, 0), rows.get(state, 0)) for state in {**best, **rows}}
    return tops[-1] if tops[-1] == tops[states] else None
