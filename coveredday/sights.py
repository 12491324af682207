"""Sights: what a member sees of a day, and what it can know by that."""

from coveredday.cover import cover_amount
from coveredday.errors import BadSight, NotSeen
from coveredday.longwalk import LongWalk
from coveredday.moves import parting
from coveredday.names import check_same_goods
from coveredday.search import shortest_rows
from coveredday.views import check_told, step_table
from coveredday.ways import nodes_along, ways_from


def sight(plan, group, node):
    """What the group, any object, sees of the node, any object: a word or None."""
    plan.check_group(group)
    kind = plan.kind(node)
    if kind == "look":
        return "look" if plan.looks_at(node, group) else None
    return kind if kind in Outlook.SIGHTS else None


def sights(plan, group, walk):
    """What the group, any object, sees along a walk of any objects."""
    plan.check_group(group)
    words = [sight(plan, group, node) for node in walk]
    return tuple([word for word in words if word is not None])


class Outlook:
    """What a member of the group knows who has seen these sights since the start."""
    SIGHTS = ("tell", "desk", "free", "look", "close")

    def __init__(self, plan, group, seen=()):
        plan.check_group(group)
        self.plan = plan
        self.group = group
        self._sights = {node: sight(plan, group, node) for node in plan.node_names}
        self._seen = ()
        # The nodes at which the last telling can have been, and what was seen since then.
        self._tellings = (None,)
        self._since = ()
        self._stand_at((None,))
        for word in seen:
            self.see(word)

    @property
    def seen(self):
        """The sights seen."""
        return self._seen

    @property
    def places(self):
        """The nodes, and None for the start, at which the day can stand."""
        return self._places

    @property
    def coming(self):
        """The sights that can come next."""
        return self._coming

    def see(self, word):
        """Adds a sight, any object; the places behind it."""
        if word not in Outlook.SIGHTS:
            raise BadSight(word)
        if word not in self._coming:
            raise NotSeen(word)
        entered = tuple([node for node in self._further(self._places) if self._sights[node] == word])
        self._seen = self._seen + (word,)
        self._tellings = entered if word == "tell" else self._tellings
        self._since = () if word == "tell" else self._since + (word,)
        self._stand_at(entered)
        return self._places

    def loss(self, position):
        """The greatest that the position can have lost since the last telling; None if that is endless."""
        check_same_goods(self.plan.goods, position)
        return self._most(lambda table: cover_amount(position, table))

    def bounds(self, told, up, down):
        """The least and the greatest, or None, of the true price of up less that of down; all are any objects."""
        check_told(self.plan, told)
        apart = parting(self.plan.goods, told, up, down)
        fall = self._most(lambda table: table[down, up])
        rise = self._most(lambda table: table[up, down])
        return None if fall is None else apart - fall, None if rise is None else apart + rise

    def worst_walk(self, position):
        """A walk since the last telling on which the position can have lost the most."""
        check_same_goods(self.plan.goods, position)
        ways = self._ways()
        amount, start, first, ring, tail = ways.longest_way(ways.weights(lambda table: cover_amount(position, table)))
        return LongWalk(amount, start[1], nodes_along(first), nodes_along(ring), nodes_along(tail))

    def tellings(self):
        """The nodes at which the last telling can have been; None is the start."""
        return self._tellings

    def has_seen_all(self, count):
        """Whether so many sights since the last telling are all that were seen."""
        return count == len(self._since)

    def onward(self, count, node):
        """How a walk can go on from a node behind so many of the sights seen since the last telling: the triples
        (follower, how many sights then, edge table). Behind the last of them it can go on to any follower."""
        found = []
        for other, _ in self.plan.followers(node):
            word = self._sights[other]
            table = self.plan.edge_table(node, other)
            if word is None or self.has_seen_all(count):
                found.append((other, count, table))
            elif word == self._since[count]:
                found.append((other, count + 1, table))
        return found

    def _arcs(self, state):
        """The arcs from a state (count, node) on walks that agree, which can end wherever all was seen."""
        count, node = state
        if not self.has_seen_all(count):
            return [(state, other, (late, other), table) for other, late, table in self.onward(count, node)]
        arcs = [(state, other, (late, other), table) for other, late, table in self.onward(count, node)
                if self._sights[other] is None]
        return arcs + [(state, None, None, step_table(self.plan, node))]

    def _ways(self):
        """The ways from the last telling to where the day can stand."""
        return ways_from(tuple([(0, node) for node in self._tellings]), lambda state: self._arcs(state))

    def _most(self, weigh):
        """The greatest sum of what weigh tells of the tables of a walk since the last telling, or None."""
        ways = self._ways()
        numbers = ways.greatest(ways.weights(weigh))
        return None if numbers is None else ways.most(numbers)

    def _further(self, places):
        """The nodes that follow some of these, in the order of the plan."""
        found = [node for place in places for node, _ in self.plan.followers(place)]
        return tuple([node for node in self.plan.node_names if node in found])

    def _stand_at(self, entered):
        """The day stands at one of these nodes, or at one that nobody sees behind them."""
        silent = shortest_rows(
            entered, lambda place: [(None, node) for node in self._further((place,)) if self._sights[node] is None])
        self._places = tuple([place for place in (None,) + self.plan.node_names if place in silent])
        words = [self._sights[node] for node in self._further(self._places)]
        self._coming = tuple([word for word in Outlook.SIGHTS if word in words])
