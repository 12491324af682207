"""What the tests of houses share: the state of a house as plain values, random plans, parcels and deeds."""

from coveredday.errors import MarketError
from coveredday.house import House
from coveredday.parcels import Parcels
from tests.common import THINGS
from tests.plainhouse import Refused, moves_of, plain_of
from tests.plans import random_plan

KINDS = ("move", "move", "tell", "desk", "desk", "free", "look", "close", "rest")
NAMES = ("ann", "bob", "cal", "dan", "eve", "fay", "gus", "hal")


def plain_order(order):
    return order.member, order.thing, order.side, order.count, order.limit


def told_state(house):
    """All that a house shows of itself, as plain values."""
    members = tuple(
        (name, house.group_of(name), house.cash_of(name), house.position_of(name).counts, house.holdings_of(name),
         tuple((number, plain_order(order)) for number, order in house.orders_of(name)), house.is_marked(name),
         house.slack_of(name))
        for name in house.member_names)
    return (house.place_now, house.true_prices, house.told_prices, house.paid_total, house.street_cash,
            house.street_position.counts, members, tuple(house.daybook()))


def sums_of(house, log):
    """The cash of all less what it must be by the day book, beside what was passed in; the counts of all positions."""
    change = {"paid_in": 1, "paid_out": -1, "paid": 1}
    cash = sum(house.cash_of(name) for name in house.member_names) + house.street_cash
    cash -= sum(change.get(row[0], 0) * row[2] for row in log if row[0] in change)
    positions = [house.position_of(name).counts for name in house.member_names] + [house.street_position.counts]
    return cash, tuple(map(sum, zip(*positions)))


def outcome(house, deed):
    """What a deed gives: ("told", value) or ("refused", name and attributes of the error)."""
    try:
        told = house.do(deed)
    except Refused as refused:
        return "refused", refused.args
    except MarketError as fault:
        return "refused", (type(fault).__name__,) + tuple(vars(fault).values())
    return "told", plain_order(told) if hasattr(told, "limit") else told


def small_plan(chance, most_nodes=7):
    """A random plan with small tables in which a member can do something."""
    while True:
        plan = random_plan(chance, most_nodes, 3, (0, 1, 1, 2), KINDS)
        kinds = {plan.kind(node) for node in plan}
        if "close" in kinds and ("desk" in kinds or "free" in kinds):
            return plan


def small_parcels(chance, goods):
    """Rows of parcels of small contents, one within another."""
    rows = [("pair", [(good, chance.choice((-2, -1, 1, 2))) for good in goods])]
    if chance.random() < 0.6:
        rows.append(("pack", [("pair", chance.choice((-1, 1, 2))), (goods[0], chance.choice((-3, 5)))]))
    return rows


def two_houses(chance, plan=None, cashes=(0, 3, 8, 20, 80, 300)):
    """A house and the plain house of the same plan, prices, members and parcels."""
    plan = small_plan(chance) if plan is None else plan
    rows = small_parcels(chance, plan.goods)
    prices = [chance.randint(-2, 5) for _ in plan.goods]
    members = [(name, chance.choice(plan.group_names), chance.choice(cashes)) for name in NAMES[:chance.choice((1, 2, 3, 3, 8))]]
    return House(plan, prices, members, parcels=Parcels(plan.goods, rows)), plain_of(plan, prices, members, rows)


def right_deed(chance, plain):
    """A deed that the house may let, seen from the plain house."""
    members = plain.names
    kind = None if plain.place is None else plain.step(plain.place)[0]
    words = {"desk": ["order"] * 6 + ["cancel", "pay_in", "pay_out", "apart", "together", "together"], "free": ["trade"] * 4}
    word = chance.choice(words.get(kind, []) + ["enter", "enter"] + ["notice"] * (chance.random() < 0.2))
    one, other = chance.choice(members), chance.choice(members)
    thing, count = chance.choice(plain.things), chance.choice((1, 1, 2, 3))
    if word == "enter":
        return entering(chance, plain)
    if word == "order":
        near = sum(number * price for number, price in zip(plain.counts_apart(thing, 1).values(), plain.told))
        return "order", one, thing, chance.choice(("buy", "sell")), count, near + chance.randint(-2, 2)
    if word == "cancel":
        return "cancel", chance.choice([row[0] for row in plain.orders] or [0])
    if word in ("pay_in", "pay_out"):
        return word, one, chance.choice((1, 2, 5, 9))
    if word in ("apart", "together"):
        return word, one, chance.choice(list(plain.contents)), count
    return ("trade", one, other, thing, count) if word == "trade" else ("notice", one)


def entering(chance, plain):
    """A way on from where the house stands, mostly by an edge and with a move that fits."""
    names = [row[0] for row in plain.nodes]
    near = [names[0]] if plain.place is None else [
        other for other, _ in [row[2] for row in plain.nodes if row[0] == plain.place][0]]
    node = chance.choice(near if chance.random() < 0.95 else names)
    step = plain.step(node)
    if step[0] != "move":
        return "enter", node, None
    return "enter", node, chance.choice(plain.moves[step[1] if chance.random() < 0.9 else max(plain.tables)])


def bent(chance, deed):
    """The deed with some of its parts replaced by any objects, or longer, or shorter."""
    parts = list(deed)
    for _ in range(chance.choice((1, 1, 2, 3))):
        at = chance.randrange(len(parts)) if chance.random() < 0.2 else max(1, chance.randrange(len(parts)))
        parts[at:at + 1] = [chance.choice(THINGS)]
    if chance.random() < 0.1:
        parts = parts[:-1] if chance.random() < 0.5 else parts + [chance.choice(THINGS)]
    return chance.choice((tuple, list))(parts)
