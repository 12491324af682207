"""Plans: the finite machine of nodes that a day goes through."""

from coveredday.errors import BadPlan, NoEdge, NoGroup, NoNode, NoTable
from coveredday.names import checked_goods, is_name, is_row, is_sequence
from coveredday.tables import Table

MOST_TABLES = 8
# The steps of these kinds are the kind alone.
PLAIN_KINDS = ("tell", "desk", "free", "close", "rest")
_MOST_GROUPS = 3
_MOST_NODES = 12
_MOST_FOLLOWERS = 4


def _has_length(thing, most):
    """Whether thing, any object, is a sequence of 1 to most items."""
    return is_sequence(thing) and 1 <= len(thing) <= most


def _is_named(row, length, earlier):
    """Whether row, any object, is a sequence of so many items with a name that no earlier row has."""
    return is_row(row, length) and is_name(row[0]) and row[0] not in names_of(earlier)


def names_of(rows):
    """The names with which the rows begin."""
    return tuple([row[0] for row in rows])


def _checked_tables(goods, tables):
    """The tables, any object, as a tuple of (name, Table)."""
    if not _has_length(tables, MOST_TABLES):
        raise BadPlan("tables", None)
    kept = []
    for at, row in enumerate(tables):
        if not _is_named(row, 2, kept) or not isinstance(row[1], Table):
            raise BadPlan("table", at)
        if row[1].goods != goods:
            raise BadPlan("goods", at)
        kept.append(tuple(row))
    return tuple(kept)


def _checked_groups(table_names, groups):
    """The groups, any object, as a tuple of (name, table name)."""
    if not _has_length(groups, _MOST_GROUPS):
        raise BadPlan("groups", None)
    kept = []
    for at, row in enumerate(groups):
        if not _is_named(row, 2, kept):
            raise BadPlan("group", at)
        if row[1] not in table_names:
            raise BadPlan("cover", at)
        kept.append(tuple(row))
    return tuple(kept)


def _is_step(step, table_names, group_names):
    """Whether step, any object, is a step with these tables and groups."""
    if not is_row(step, 1) and not is_row(step, 2):
        return False
    if step[0] == "move":
        return len(step) == 2 and step[1] in table_names
    if step[0] == "look":
        return len(step) == 2 and _is_look(step[1], group_names)
    return len(step) == 1 and step[0] in PLAIN_KINDS


def _is_look(groups, group_names):
    """Whether groups, any object, are one or more of the groups, none twice."""
    if not is_sequence(groups) or not all([group in group_names for group in groups]):
        return False
    return len(groups) > 0 and len(set(groups)) == len(groups)


def _followers_fault(followers, kind, node_names, table_names):
    """What is wrong with the followers, any object, of a node of this kind, or None."""
    if not _has_length(followers, _MOST_FOLLOWERS):
        return "followers"
    told = []
    for row in followers:
        if not is_row(row, 2) or row[0] not in node_names or row[0] in told:
            return "follower"
        if row[1] is not None and (row[1] not in table_names or kind != "move"):
            return "calm"
        told.append(row[0])
    return None


def _checked_nodes(table_names, group_names, nodes):
    """The nodes, any object, as a tuple of (name, step, followers), tuples throughout."""
    if not _has_length(nodes, _MOST_NODES):
        raise BadPlan("nodes", None)
    named = []
    for at, row in enumerate(nodes):
        if not _is_named(row, 3, named):
            raise BadPlan("node", at)
        named.append(row)
    kept = []
    for at, (name, step, followers) in enumerate(named):
        if not _is_step(step, table_names, group_names):
            raise BadPlan("step", at)
        word = _followers_fault(followers, step[0], names_of(named), table_names)
        if word is not None:
            raise BadPlan(word, at)
        told = ("look", tuple(step[1])) if step[0] == "look" else tuple(step)
        kept.append((name, told, tuple([tuple(row) for row in followers])))
    return tuple(kept)


class Plan:
    """Goods, tables, groups and nodes of a day; it never changes."""
    KINDS = ("move", "tell", "desk", "free", "look", "close", "rest")

    def __init__(self, goods, tables, groups, nodes):
        self.goods = checked_goods(goods)
        self.tables = _checked_tables(self.goods, tables)
        self.table_names = names_of(self.tables)
        self.groups = _checked_groups(self.table_names, groups)
        self.group_names = names_of(self.groups)
        self.nodes = _checked_nodes(self.table_names, self.group_names, nodes)
        self.node_names = names_of(self.nodes)
        self.first = self.node_names[0]
        self._tables = {name: table for name, table in self.tables}
        self._covers = {group: self._tables[name] for group, name in self.groups}
        self._steps = {name: step for name, step, _ in self.nodes}
        self._followers = {name: followers for name, _, followers in self.nodes}
        self._followers[None] = ((self.first, None),)
        self._edges = {}
        for one in self._followers:
            for other, calm in self._followers[one]:
                self._edges[one, other] = self._table_between(one, calm)

    def kind(self, node):
        """The kind of the node, any object."""
        return self.step(node)[0]

    def step(self, node):
        """The step of the node, any object."""
        self.check_node(node)
        return self._steps[node]

    def looks_at(self, node, group):
        """Whether the node is a look at the group; both are any objects."""
        step = self.step(node)
        self.check_group(group)
        return step[0] == "look" and group in step[1]

    def followers(self, node):
        """The pairs (follower, calm) of the node, any object, or of the start, None."""
        self.check_place(node)
        return self._followers[node]

    def edge_table(self, one, other):
        """The table of the edge between two nodes, any objects, or None; one may be the start."""
        self.check_place(one)
        self.check_node(other)
        if (one, other) not in self._edges:
            raise NoEdge(one, other)
        return self._edges[one, other]

    def table_named(self, name):
        """The table of this name, any object."""
        if name not in self.table_names:
            raise NoTable(name)
        return self._tables[name]

    def cover_table(self, group):
        """The cover table of the group, any object."""
        self.check_group(group)
        return self._covers[group]

    def check_node(self, thing):
        """Raises NoNode unless thing, any object, is a node."""
        if thing not in self.node_names:
            raise NoNode(thing)

    def check_place(self, thing):
        """Raises NoNode unless thing, any object, is a node or None."""
        if thing is not None:
            self.check_node(thing)

    def check_group(self, thing):
        """Raises NoGroup unless thing, any object, is a group."""
        if thing not in self.group_names:
            raise NoGroup(thing)

    def _table_between(self, one, calm):
        """The table of an edge that leaves the node, or the start, with this calm table."""
        if one is None or self.kind(one) != "move":
            return None
        table = self._tables[self.step(one)[1]]
        return table if calm is None else table & self._tables[calm]

    def __iter__(self):
        return iter(self.node_names)

    def __eq__(self, other):
        return (isinstance(other, Plan) and self.goods == other.goods and self.tables == other.tables
                and self.groups == other.groups and self.nodes == other.nodes)
