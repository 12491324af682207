"""A small house for the tests: it plays days of a plan by the rules of part 8, without parcels and trials."""

from coveredday.account import Account
from coveredday.fills import worst_fill
from coveredday.moves import first_broken
from coveredday.orderbook import OrderBook
from coveredday.orders import Order
from coveredday.parcels import Parcels
from coveredday.position import Position


class Refused(Exception):
    """The house does not let the deed."""


class SmallHouse:
    def __init__(self, plan, prices, members):
        self.plan = plan
        self.place, self.move = None, None
        self.true, self.told = tuple(prices), tuple(prices)
        self.groups = {name: group for name, group, _ in members}
        self.cash = {name: cash for name, _, cash in members}
        assert all(0 <= cash <= 10 ** 18 for cash in self.cash.values())
        self.held = {name: Position.flat(plan.goods) for name in self.cash}
        self.marked = {name: False for name in self.cash}
        self.book = OrderBook()
        self.parcels = Parcels(plan.goods)
        self.happenings = []

    @property
    def paid(self):
        return sum(row[2] for row in self.happenings if row[0] == "paid")

    def slack(self, member, cash=None, order=None):
        orders = [resting for _, resting in self.book.open_of(member)] + ([] if order is None else [order])
        account = Account(self.cash[member] if cash is None else cash, self.held[member], orders, parcels=self.parcels)
        return worst_fill(account, self.told, self.plan.cover_table(self.groups[member])).slack

    def refuse_unless(self, right):
        if not right:
            raise Refused()

    def enter(self, node, move):
        rows = [(None, self.plan.nodes[0][0], None)] + [
            (name, other, calm) for name, _, followers in self.plan.nodes for other, calm in followers]
        calms = [calm for one, other, calm in rows if (one, other) == (self.place, node)]
        self.refuse_unless(calms)
        if calms[0] is not None:
            self.refuse_unless(first_broken(self.move, self.plan.table_named(calms[0])) is None)
        step = self.plan.step(node)
        self.refuse_unless((move is not None) == (step[0] == "move"))
        if step[0] == "move":
            self.refuse_unless(first_broken(move, self.plan.table_named(step[1])) is None)
            self.true = tuple(price + change for price, change in zip(self.true, move))
        self.place, self.move = node, move
        self.happenings.append(("entered", node))
        if step[0] == "tell":
            self.told = self.true
        for member in self.cash:
            if step[0] == "look" and self.groups[member] in step[1] and not self.marked[member]:
                if self.slack(member) < 0:
                    self.mark(member, "look")
            if step[0] == "close" and self.marked[member]:
                self.close_out(member)

    def mark(self, member, why):
        self.marked[member] = True
        self.book.cancel_all(member)
        self.happenings.append(("marked", member, why))

    def close_out(self, member):
        worth = self.held[member].worth(self.true)
        before = self.cash[member] + worth
        self.happenings.append(("closed", member, worth, before))
        if before < 0:
            self.happenings.append(("paid", member, -before))
        self.cash[member] = max(0, before)
        self.held[member] = Position.flat(self.plan.goods)
        self.marked[member] = False

    def exchange(self, buyer, seller, thing, count, price):
        self.cash[buyer] -= count * price
        self.cash[seller] += count * price
        self.held[buyer] = self.held[buyer] + Position.single(self.plan.goods, thing, count)
        self.held[seller] = self.held[seller] - Position.single(self.plan.goods, thing, count)

    def order(self, member, thing, side, count, limit):
        self.refuse_unless(self.place is not None and self.plan.kind(self.place) == "desk" and not self.marked[member])
        made = Order(member, thing, side, count, limit)
        self.refuse_unless(len(self.book.open_of(member)) < 5 and self.slack(member, order=made) >= 0)
        for fill in self.book.place(made)[1]:
            self.exchange(*fill)
            self.happenings.append(("filled",) + fill)

    def pay_in(self, member, amount):
        self.refuse_unless(self.place is not None and self.plan.kind(self.place) == "desk" and not self.marked[member])
        assert 1 <= amount <= 10 ** 18
        self.cash[member] += amount
        self.happenings.append(("paid_in", member, amount))

    def pay_out(self, member, amount):
        self.refuse_unless(self.place is not None and self.plan.kind(self.place) == "desk" and not self.marked[member])
        assert 1 <= amount <= 10 ** 18
        self.refuse_unless(self.slack(member, cash=self.cash[member] - amount) >= 0)
        self.cash[member] -= amount
        self.happenings.append(("paid_out", member, amount))

    def trade(self, buyer, seller, thing, count):
        self.refuse_unless(self.place is not None and self.plan.kind(self.place) == "free")
        self.refuse_unless(buyer != seller and not self.marked[buyer] and not self.marked[seller])
        price = self.told[self.plan.goods.index(thing)]
        self.exchange(buyer, seller, thing, count, price)
        self.happenings.append(("traded", buyer, seller, thing, count, price))

    def notice(self, member):
        if not self.marked[member]:
            self.mark(member, "notice")

    def do(self, deed):
        calls = {"enter": self.enter, "order": self.order, "pay_in": self.pay_in, "pay_out": self.pay_out,
                 "trade": self.trade, "notice": self.notice}
        calls[deed[0]](*deed[1:])


def played(plan, day):
    """The house behind all deeds of the day."""
    house = SmallHouse(plan, day.prices, day.members)
    for deed in day.deeds:
        house.do(deed)
    return house
