"""Changes of plans, and plans without what does not matter."""

from coveredday.errors import BadChange, CannotBe, MarketError, TooManyTables
from coveredday.names import MOST, check_same_goods, is_name, is_row, is_sequence, is_whole
from coveredday.plan import MOST_TABLES, PLAIN_KINDS, Plan, names_of
from coveredday.tables import made_table
from coveredday.walks import reachable

# What stands behind the word of a change; where no other kind is told, it is a string.
_SHAPES = {
    "put": ("one", "other", "name", "step"),
    "step": ("node", "step"),
    "row": ("table", "up", "down", "most"),
    "cover": ("group", "table"),
    "cut": ("one", "other"),
    "calm": ("one", "other", "calm"),
}
_COVER_NAMES = ("cover", "covera", "coverb", "coverc", "coverd", "covere", "coverf", "coverg", "coverh")


def _is_step(thing):
    """Whether thing, any object, has the shape of a step."""
    if is_row(thing, 1):
        return thing[0] in PLAIN_KINDS
    if not is_row(thing, 2):
        return False
    if thing[0] == "look":
        groups = thing[1]
        return is_sequence(groups) and len(groups) > 0 and all([isinstance(group, str) for group in groups])
    return thing[0] == "move" and isinstance(thing[1], str)


def _is_part(thing, kind):
    """Whether thing, any object, has the shape of a part of this kind."""
    if kind == "step":
        return _is_step(thing)
    if kind == "name":
        return is_name(thing)
    if kind == "most":
        return is_whole(thing, 0, MOST)
    return isinstance(thing, str) or (kind == "calm" and thing is None)


def _has_shape(change):
    """Whether change, any object, has the right shape."""
    if not is_sequence(change) or not change or not isinstance(change[0], str) or change[0] not in _SHAPES:
        return False
    kinds = _SHAPES[change[0]]
    return len(change) == len(kinds) + 1 and all([_is_part(part, kind) for part, kind in zip(change[1:], kinds)])


def check_changes(changes):
    """Raises BadChange for the first of these objects without the right shape."""
    for index, change in enumerate(changes):
        if not _has_shape(change):
            raise BadChange(index)


def _with_nodes(plan, nodes):
    """The plan with these nodes."""
    return Plan(plan.goods, plan.tables, plan.groups, nodes)


def _with_node(plan, node, step, followers, more=()):
    """The plan with this step and these followers of the node, and with more nodes behind the others."""
    nodes = [(name, step, followers) if name == node else (name, old, near) for name, old, near in plan.nodes]
    return _with_nodes(plan, nodes + list(more))


def _with_edge(plan, one, other, edges, more=()):
    """The plan with these followers, none or one, at the place of the edge from one to other."""
    plan.edge_table(one, other)
    followers = []
    for row in plan.followers(one):
        followers.extend(edges if row[0] == other else (row,))
    return _with_node(plan, one, plan.step(one), followers, more)


def _calm_of(plan, one, other):
    """The name of the calm table of the edge from one to other, or None."""
    plan.edge_table(one, other)
    return dict(plan.followers(one))[other]


def _with_row(plan, name, row):
    """The plan with this row in the table of this name, at the place of the row of the same pair."""
    rows = list(plan.table_named(name).rows)
    places = [at for at, old in enumerate(rows) if old[:2] == row[:2]]
    if places:
        rows[places[0]] = row
    else:
        rows.append(row)
    tables = [(one, made_table(plan.goods, rows) if one == name else table) for one, table in plan.tables]
    return Plan(plan.goods, tables, plan.groups, plan.nodes)


def _with_cover(plan, group, table):
    """The plan with the table of this name as the cover table of the group."""
    plan.check_group(group)
    groups = [(name, table if name == group else old) for name, old in plan.groups]
    return Plan(plan.goods, plan.tables, groups, plan.nodes)


def _done(plan, change):
    """The plan with a change of the right shape; what it names, or what it makes, may be wrong."""
    match change:
        case ["put", one, other, name, step]:
            edges = ((name, _calm_of(plan, one, other)),)
            return _with_edge(plan, one, other, edges, ((name, step, ((other, None),)),))
        case ["step", node, step]:
            return _with_node(plan, node, step, plan.followers(node))
        case ["row", table, up, down, most]:
            return _with_row(plan, table, (up, down, most))
        case ["cover", group, table]:
            return _with_cover(plan, group, table)
        case ["cut", one, other]:
            return _with_edge(plan, one, other, ())
        case ["calm", one, other, table]:
            return _with_edge(plan, one, other, ((other, table),))


def changed(plan, changes):
    """The plan with these changes, any objects, done one after another."""
    check_changes(changes)
    found = _with_nodes(plan, plan.nodes)
    for index, change in enumerate(changes):
        try:
            found = _done(found, change)
        except MarketError:
            raise CannotBe(index) from None
    return found


def _step_alone(step, group):
    """The step as it is if this group is the only one."""
    if step[0] != "look":
        return step
    return ("look", (group,)) if group in step[1] else ("rest",)


def alone(plan, group, table=None):
    """The plan with this group, any object, alone, with this cover table or, for None, its own."""
    plan.check_group(group)
    if table is not None:
        check_same_goods(plan.goods, table)
    named = [step[1] for _, step, _ in plan.nodes if step[0] == "move"]
    named = named + [calm for _, _, followers in plan.nodes for _, calm in followers]
    kept = [row for row in plan.tables if row[0] in named]
    if len(kept) == MOST_TABLES:
        raise TooManyTables(len(kept) + 1)
    own = dict(plan.groups)[group]
    names = [name for name in (own,) + _COVER_NAMES if name not in names_of(kept)]
    cover = (names[0], plan.cover_table(group) if table is None else table)
    nodes = [(name, _step_alone(step, group), followers) for name, step, followers in plan.nodes]
    return Plan(plan.goods, kept + [cover], ((group, names[0]),), nodes)


def _needless(nodes):
    """The name of the first of these nodes, all of them reachable, that can be taken out, or None."""
    nears = [names_of(followers) for _, _, followers in nodes]
    for name, step, followers in nodes[1:]:
        other = followers[0][0]
        doubled = any([name in near and other in near for near in nears])
        if step[0] == "rest" and len(followers) == 1 and other != name and not doubled:
            return name
    return None


def _without_node(nodes, name):
    """These nodes without one that has one follower: its edges lead there."""
    other = [followers[0][0] for node, _, followers in nodes if node == name][0]
    return [(node, step, [(other if near == name else near, calm) for near, calm in followers])
            for node, step, followers in nodes if node != name]


def shorter(plan):
    """The plan without needless nodes."""
    known = reachable(plan)
    nodes = [row for row in plan.nodes if row[0] in known]
    name = _needless(nodes)
    while name is not None:
        nodes = _without_node(nodes, name)
        name = _needless(nodes)
    return _with_nodes(plan, nodes)
