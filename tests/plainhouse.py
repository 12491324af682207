"""A plain house for the tests, written anew by the words of part 8. It knows nothing of the program: it is told the
rows of tables and parcels, finds covers by all moves within small tables, and keeps lists and dicts that are copied
as a whole. What it refuses it raises as Refused, with the name of the error and its attributes."""

import copy
from itertools import product


class Refused(Exception):
    """The words of an error: its name and its attributes."""


def is_whole(thing, low, high):
    return type(thing) is int and low <= thing <= high


def moves_of(goods, rows):
    """All moves within the rows of a small table that has a chain from each asset to each other one."""
    most = sum(row[2] for row in rows)
    found = []
    for move in product(range(-most, most + 1), repeat=len(goods)):
        if is_within(goods, rows, move):
            found.append(move)
    return found


def is_within(goods, rows, move):
    changes = dict(zip(goods, move), cash=0)
    return all(changes[up] - changes[down] <= most for up, down, most in rows)


class PlainHouse:
    NODE_DEEDS = {"order": "desk", "cancel": "desk", "pay_in": "desk", "pay_out": "desk", "apart": "desk",
                  "together": "desk", "trade": "free"}

    def __init__(self, goods, tables, groups, nodes, prices, members, parcels=()):
        self.goods, self.tables, self.groups, self.nodes = goods, dict(tables), dict(groups), nodes
        self.moves = {name: moves_of(goods, rows) for name, rows in self.tables.items()}
        self.contents = dict(parcels)
        self.things = list(goods) + [name for name, _ in parcels]
        self.place, self.move, self.true, self.told = None, None, list(prices), list(prices)
        self.group = {name: group for name, group, _ in members}
        self.names = [name for name, _, _ in members]
        self.cash = {name: cash for name, _, cash in members}
        self.pieces = {name: dict.fromkeys(self.things, 0) for name in self.names}
        self.marked = dict.fromkeys(self.names, False)
        self.orders, self.placed = [], 0
        self.paid, self.street_cash, self.street = 0, 0, dict.fromkeys(goods, 0)
        self.log = []

    def copied(self):
        """A house that goes on by itself; what never changes is shared."""
        other = copy.copy(self)
        for name in ("true", "told", "cash", "marked", "orders", "street", "log"):
            setattr(other, name, copy.copy(getattr(self, name)))
        other.pieces = {name: dict(pieces) for name, pieces in self.pieces.items()}
        return other

    def counts_apart(self, thing, pieces):
        """The counts of goods that so many pieces of a thing are."""
        counts = dict.fromkeys(self.goods, 0)
        if thing in counts:
            counts[thing] += pieces
        else:
            for part, count in self.contents[thing]:
                for good, more in self.counts_apart(part, pieces * count).items():
                    counts[good] += more
        return counts

    def position(self, member):
        counts = dict.fromkeys(self.goods, 0)
        for thing, pieces in self.pieces[member].items():
            for good, more in self.counts_apart(thing, pieces).items():
                counts[good] += more
        return counts

    def slack(self, member, more_cash=0, order=None):
        """The least slack of the member, by all fills that take orders wholly or not at all."""
        orders = [row[2:] for row in self.orders if row[1] == member] + ([order] if order else [])
        slacks = []
        for taken in product((0, 1), repeat=len(orders)):
            cash, counts = self.cash[member] + more_cash, self.position(member)
            for (thing, side, count, limit), whole in zip(orders, taken):
                pieces = whole * count * (1 if side == "buy" else -1)
                cash -= pieces * limit
                for good, more in self.counts_apart(thing, pieces).items():
                    counts[good] += more
            held = [counts[good] for good in self.goods]
            worth = sum(count * price for count, price in zip(held, self.told))
            moves = self.moves[self.groups[self.group[member]]]
            cover = max(-sum(count * change for count, change in zip(held, move)) for move in moves)
            slacks.append(cash + worth - cover)
        return min(slacks)

    def step(self, node):
        return [row[1] for row in self.nodes if row[0] == node][0]

    def refuse_if(self, wrong, *words):
        if wrong:
            raise Refused(*words)

    def is_one_of(self, thing, known):
        return isinstance(thing, str) and thing in known

    def check_deed(self, deed):
        kind = None if self.place is None else self.step(self.place)[0]
        self.refuse_if(kind != self.NODE_DEEDS[deed], "NotNow", deed)

    def check_member(self, member):
        self.refuse_if(not self.is_one_of(member, self.names), "NoMember", member)

    def check_hand(self, deed, member):
        self.check_deed(deed)
        self.check_member(member)
        self.refuse_if(self.marked[member], "Marked", member)

    def enter(self, node, move):
        names = [row[0] for row in self.nodes]
        self.refuse_if(not self.is_one_of(node, names), "NoNode", node)
        followers = [(names[0], None)] if self.place is None else [row[2] for row in self.nodes if row[0] == self.place][0]
        calms = [calm for other, calm in followers if other == node]
        self.refuse_if(not calms, "NoEdge", self.place, node)
        if calms[0] is not None:
            self.refuse_if(not is_within(self.goods, self.tables[calms[0]], self.move), "NotCalm", self.place, node)
        step = self.step(node)
        if step[0] == "move":
            self.refuse_if(move is None, "BadMove", "missing")
            self.refuse_if(not isinstance(move, (list, tuple)) or len(move) != len(self.goods), "BadMove", "move")
            self.refuse_if(any(type(number) is not int for number in move), "BadMove", "number")
            self.refuse_if(not is_within(self.goods, self.tables[step[1]], move), "BadMove", "table")
            self.true = [price + change for price, change in zip(self.true, move)]
        else:
            self.refuse_if(move is not None, "BadMove", "given")
        self.place, self.move = node, move
        self.log.append(("entered", node))
        if step[0] == "tell":
            self.told = list(self.true)
        for member in self.names:
            if step[0] == "look" and self.group[member] in step[1] and not self.marked[member] and self.slack(member) < 0:
                self.mark(member, "look")
            if step[0] == "close" and self.marked[member]:
                self.close(member)

    def mark(self, member, why):
        self.marked[member] = True
        self.orders = [row for row in self.orders if row[1] != member]
        self.log.append(("marked", member, why))

    def close(self, member):
        counts = self.position(member)
        worth = sum(counts[good] * price for good, price in zip(self.goods, self.true))
        before = self.cash[member] + worth
        self.log.append(("closed", member, worth, before))
        if before < 0:
            self.log.append(("paid", member, -before))
            self.paid -= before
        self.cash[member] = max(before, 0)
        self.street_cash -= worth
        for good in self.goods:
            self.street[good] += counts[good]
        self.pieces[member] = dict.fromkeys(self.things, 0)
        self.marked[member] = False

    def order(self, member, thing, side, count, limit):
        self.check_hand("order", member)
        self.refuse_if(not self.is_one_of(thing, self.things), "NoThing", thing)
        self.refuse_if(not self.is_one_of(side, ("buy", "sell")), "BadOrder", "side")
        self.refuse_if(not is_whole(count, 1, 10 ** 6), "BadOrder", "count")
        self.refuse_if(not is_whole(limit, -10 ** 12, 10 ** 12), "BadOrder", "limit")
        self.refuse_if(len([row for row in self.orders if row[1] == member]) == 5, "TooMany", member)
        slack = self.slack(member, order=(thing, side, count, limit))
        self.refuse_if(slack < 0, "NotCovered", member, -slack)
        number = self.placed
        self.placed += 1
        left = self.fill(member, thing, side, count, limit)
        if left:
            self.orders.append((number, member, thing, side, left, limit))
        return number

    def fill(self, member, thing, side, count, limit):
        """Fills a new order against the resting ones, the best one first; how many pieces are left."""
        sign = 1 if side == "buy" else -1
        others = [row for row in self.orders if row[1] != member and row[2] == thing and row[3] != side
                  and sign * row[5] <= sign * limit]
        for row in sorted(others, key=lambda row: (sign * row[5], row[0])):
            pieces = min(count, row[4])
            if pieces:
                count -= pieces
                at = self.orders.index(row)
                self.orders[at:at + 1] = [row[:4] + (row[4] - pieces,) + row[5:]] if row[4] > pieces else []
                buyer, seller = (member, row[1]) if sign > 0 else (row[1], member)
                self.exchange("filled", buyer, seller, thing, pieces, row[5])
        return count

    def exchange(self, word, buyer, seller, thing, count, price):
        self.cash[buyer] -= count * price
        self.cash[seller] += count * price
        self.pieces[buyer][thing] += count
        self.pieces[seller][thing] -= count
        self.log.append((word, buyer, seller, thing, count, price))

    def cancel(self, number):
        self.check_deed("cancel")
        self.refuse_if(type(number) is not int or number not in [row[0] for row in self.orders], "NoOrder", number)
        found = [row for row in self.orders if row[0] == number][0]
        self.orders.remove(found)
        return found[1:]

    def pay_in(self, member, amount):
        self.check_hand("pay_in", member)
        self.refuse_if(not is_whole(amount, 1, 10 ** 18), "BadAmount", amount)
        self.cash[member] += amount
        self.log.append(("paid_in", member, amount))

    def pay_out(self, member, amount):
        self.check_hand("pay_out", member)
        self.refuse_if(not is_whole(amount, 1, 10 ** 18), "BadAmount", amount)
        slack = self.slack(member, more_cash=-amount)
        self.refuse_if(slack < 0, "NotCovered", member, -slack)
        self.cash[member] -= amount
        self.log.append(("paid_out", member, amount))

    def apart(self, member, parcel, count):
        self.check_hand("apart", member)
        self.refuse_if(not self.is_one_of(parcel, self.contents), "NoThing", parcel)
        held = self.pieces[member]
        self.refuse_if(not is_whole(count, 1, 10 ** 6) or held[parcel] < count, "NotHeld", parcel, count)
        held[parcel] -= count
        for thing, many in self.contents[parcel]:
            held[thing] += many * count

    def together(self, member, parcel, count):
        self.check_hand("together", member)
        self.refuse_if(not self.is_one_of(parcel, self.contents), "NoThing", parcel)
        held = self.pieces[member]
        self.refuse_if(not is_whole(count, 1, 10 ** 6), "NotHeld", parcel, count)
        for thing, many in self.contents[parcel]:
            there = held[thing] >= many * count if many > 0 else held[thing] <= many * count
            self.refuse_if(not there, "NotHeld", parcel, count)
        held[parcel] += count
        for thing, many in self.contents[parcel]:
            held[thing] -= many * count

    def trade(self, buyer, seller, thing, count):
        self.check_deed("trade")
        self.check_member(buyer)
        self.check_member(seller)
        self.refuse_if(buyer == seller, "OwnTrade", buyer)
        self.refuse_if(self.marked[buyer], "Marked", buyer)
        self.refuse_if(self.marked[seller], "Marked", seller)
        self.refuse_if(not self.is_one_of(thing, self.things), "NoThing", thing)
        self.refuse_if(not is_whole(count, 1, 10 ** 6), "BadAmount", count)
        counts = self.counts_apart(thing, 1)
        self.exchange("traded", buyer, seller, thing, count, sum(counts[good] * price for good, price in zip(self.goods, self.told)))

    def notice(self, member):
        self.check_member(member)
        if self.marked[member]:
            return False
        self.mark(member, "notice")
        return True

    def do(self, deed):
        lengths = {"enter": 2, "order": 5, "cancel": 1, "pay_in": 2, "pay_out": 2, "apart": 3, "together": 3, "trade": 4,
                   "notice": 1}
        right = isinstance(deed, (list, tuple)) and len(deed) > 0 and self.is_one_of(deed[0], lengths)
        self.refuse_if(not right or len(deed) != lengths[deed[0]] + 1, "BadDeed", deed)
        return getattr(self, deed[0])(*deed[1:])

    def told_state(self):
        """All that a house shows of itself, as plain values."""
        members = tuple(
            (name, self.group[name], self.cash[name], tuple(self.position(name).values()),
             tuple((thing, pieces) for thing, pieces in self.pieces[name].items() if pieces),
             tuple((row[0], row[1:]) for row in sorted(self.orders) if row[1] == name), self.marked[name], self.slack(name))
            for name in self.names)
        return (self.place, tuple(self.true), tuple(self.told), self.paid, self.street_cash, tuple(self.street.values()),
                members, tuple(self.log))


def plain_of(plan, prices, members, parcels=()):
    """The plain house of the same plan: it is told plain rows alone."""
    tables = [(name, table.rows) for name, table in plan.tables]
    return PlainHouse(plan.goods, tables, plan.groups, plan.nodes, prices, members, parcels)
