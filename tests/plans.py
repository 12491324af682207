"""Plans that the tests of several modules share."""

from coveredday.plan import Plan
from coveredday.tables import Table
from tests.common import random_rows

KINDS = ("move", "tell", "desk", "free", "look", "close", "rest")
PHASES = ("empty", "holding", "stand", "out", "free", "freeout")
OIL = ("oil",)
DAY = Table.full(OIL, 2)
DEEP_TABLE = Table.full(OIL, 4)
TABLES = (("day", DAY), ("deep", DEEP_TABLE))
GROUPS = (("firm", "deep"),)
NODES = (
    ("gap", ("tell",), (("till", None),)),
    ("till", ("desk",), (("shift", None),)),
    ("shift", ("move", "day"), (("bar", None),)),
    ("bar", ("close",), (("gap", None),)),
)


def example_plan():
    """The plan of the example in part 6."""
    return Plan(OIL, TABLES, GROUPS, NODES)


def chain_plan(*steps, tables=TABLES, groups=GROUPS, goods=OIL, back=None):
    """A plan whose nodes na, nb, .. with these steps follow each other; the last leads back to one, or to itself."""
    names = ["n" + letter for letter in "abcdefghijkl"[:len(steps)]]
    behind = names[1:] + [names[-1] if back is None else back]
    return Plan(goods, tables, groups, [(name, step, [(other, None)]) for name, step, other in zip(names, steps, behind)])


def random_plan(chance, most_nodes=5, most_followers=3, mosts=(0, 0, 0, 1, 2), kinds=KINDS):
    """A plan with small tables."""
    goods = ("a", "b")[:chance.randint(1, 2)]
    tables = [("t" + letter, Table(goods, random_rows(chance, goods, mosts))) for letter in "abc"]
    names = [name for name, _ in tables]
    groups = [("g" + letter, chance.choice(names)) for letter in "ab"[:chance.randint(1, 2)]]
    count = chance.randint(1, most_nodes)
    nodes = []
    for letter in "abcdefghijkl"[:count]:
        kind = chance.choice(kinds)
        step = (kind,)
        if kind == "move":
            step = (kind, chance.choice(names))
        elif kind == "look":
            step = (kind, tuple(chance.sample([name for name, _ in groups], chance.randint(1, len(groups)))))
        others = chance.sample(range(count), chance.randint(1, min(count, most_followers)))
        calms = [chance.choice(names) if kind == "move" and chance.random() < 0.3 else None for _ in others]
        nodes.append(("n" + letter, step, [("n" + "abcdefghijkl"[at], calm) for at, calm in zip(others, calms)]))
    return Plan(goods, tables, groups, nodes)


def busy_plan(chance, most_nodes=7):
    """A random plan that is likely to have windows: a telling, a desk or free node, a move and a close."""
    while True:
        plan = random_plan(chance, most_nodes)
        kinds = [plan.kind(node) for node in plan]
        if "close" in kinds and "move" in kinds and ("desk" in kinds or "free" in kinds):
            return plan


def forward_plan(chance, most_nodes=6):
    """A random plan whose nodes lead to later nodes alone, but for a last one that closes members out and stays."""
    kinds = ("move", "move", "tell", "desk", "free", "look", "close")
    plan = random_plan(chance, most_nodes, 1, (0, 1, 2, 3), kinds)
    names = plan.node_names
    nodes = [(name, step, [(other, None) for other in chance.sample(names[at + 1:at + 4], len(names[at + 1:at + 4]))])
             for at, (name, step, _) in enumerate(plan.nodes)]
    nodes[-1] = (names[-1], ("close",), [(names[-1], None)])
    return Plan(plan.goods, plan.tables, plan.groups, nodes)
