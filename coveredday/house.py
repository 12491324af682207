"""The house: it stands between all who trade, and plays days of a plan."""

from coveredday.account import MOST_ORDERS, Account
from coveredday.daybook import DayBook
from coveredday.errors import BadAmount, BadDeed, BadHouse, BadMove, Marked, NoEdge, NoMember, NoThing, NotCalm
from coveredday.errors import NotCovered, NotNow, OwnTrade, TooMany
from coveredday.fills import worst_fill
from coveredday.ledger import Ledger
from coveredday.moves import check_move, fits
from coveredday.names import MOST, MOST_CASH, MOST_COUNT, is_name, is_number_row, is_row, is_sequence, is_whole
from coveredday.orders import Order
from coveredday.parcels import Parcels
from coveredday.trial import Trial

_MOST_MEMBERS = 8


def _member_fault(plan, row, earlier):
    """What is wrong with the row of a member, any object, behind these names, or None."""
    if not is_row(row, 3):
        return "member"
    name, group, cash = row
    if not is_name(name) or name in earlier:
        return "name"
    if group not in plan.group_names:
        return "group"
    if not is_whole(cash, 0, MOST_CASH):
        return "cash"
    return None


def _check_start(plan, prices, members):
    """Raises BadHouse unless prices and members, any objects, can begin a day."""
    if not is_number_row(prices, len(plan.goods)) or not all([is_whole(price, -MOST, MOST) for price in prices]):
        raise BadHouse("prices", None)
    if not is_sequence(members) or not 1 <= len(members) <= _MOST_MEMBERS:
        raise BadHouse("members", None)
    earlier = []
    for at, row in enumerate(members):
        word = _member_fault(plan, row, earlier)
        if word is not None:
            raise BadHouse(word, at)
        earlier.append(row[0])


class House:
    """A house of a plan, with its members; parcels None stands for a market without any."""

    def __init__(self, plan, prices, members, *, parcels=None):
        if parcels is not None and (not isinstance(parcels, Parcels) or parcels.goods != plan.goods):
            raise BadHouse("parcels", None)
        _check_start(plan, prices, members)
        self.plan = plan
        self.parcels = Parcels(plan.goods) if parcels is None else parcels
        self._groups = {name: group for name, group, _ in members}
        # The last ledger is what the house holds; a trial adds what was held before when its block ends.
        self._ledgers = [Ledger(self.parcels, prices, members)]

    @property
    def place_now(self):
        """The node at which the house stands, or None."""
        return self._ledgers[-1].node

    @property
    def true_prices(self):
        """What the prices are."""
        return self._ledgers[-1].true

    @property
    def told_prices(self):
        """What the prices were when they were told last."""
        return self._ledgers[-1].told

    @property
    def paid_total(self):
        """What the house has paid."""
        return self._ledgers[-1].paid

    @property
    def street_cash(self):
        """The cash of the street."""
        return self._ledgers[-1].street_sum

    @property
    def street_position(self):
        """The position of the street."""
        return self._ledgers[-1].street_held

    @property
    def member_names(self):
        """The names of the members, in order."""
        return tuple(self._groups)

    def enter(self, node, move=None):
        """Goes on to a node; both are any objects."""
        now = self._ledgers[-1]
        self._check_way(node)
        now.go(node, self._checked_move(node, move))
        kind = self.plan.kind(node)
        if kind == "tell":
            now.tell()
        for member in self.member_names:
            if kind == "look" and self._fails_look(node, member):
                now.mark(member, "look")
            if kind == "close" and now.marked[member]:
                now.close(member)

    def order(self, member, thing, side, count, limit):
        """Places an order of any objects; its number."""
        self._check_desk("order", member)
        if thing not in self.parcels.things:
            raise NoThing(thing)
        order = Order(member, thing, side, count, limit)
        account = self.account_of(member)
        if len(account.orders) == MOST_ORDERS:
            raise TooMany(member)
        self._check_covered(member, account.with_order(order))
        return self._ledgers[-1].place(order)

    def cancel(self, number):
        """Cancels the open order with this number, any object, and returns it."""
        self._check_kind("desk", "cancel")
        return self._ledgers[-1].book.cancel(number)

    def pay_in(self, member, amount):
        """Adds an amount to the cash of a member; both are any objects."""
        self._check_payment("pay_in", member, amount)
        self._ledgers[-1].pay("paid_in", member, amount, 1)

    def pay_out(self, member, amount):
        """Takes an amount from the cash of a member; both are any objects."""
        self._check_payment("pay_out", member, amount)
        account = self.account_of(member)
        left = Account(account.cash - amount, account.position, account.orders, parcels=self.parcels)
        self._check_covered(member, left)
        self._ledgers[-1].pay("paid_out", member, amount, -1)

    def apart(self, member, parcel, count):
        """Takes pieces of a parcel of a member apart; all are any objects."""
        self._check_desk("apart", member)
        self._ledgers[-1].held[member].take_apart(parcel, count)

    def together(self, member, parcel, count):
        """Puts pieces of a parcel of a member together; all are any objects."""
        self._check_desk("together", member)
        self._ledgers[-1].held[member].put_together(parcel, count)

    def trade(self, buyer, seller, thing, count):
        """Trades pieces of a thing between two members without a look; all are any objects."""
        self._check_kind("free", "trade")
        self._check_member(buyer)
        self._check_member(seller)
        if buyer == seller:
            raise OwnTrade(buyer)
        self._check_unmarked(buyer)
        self._check_unmarked(seller)
        if thing not in self.parcels.things:
            raise NoThing(thing)
        if not is_whole(count, 1, MOST_COUNT):
            raise BadAmount(count)
        self._ledgers[-1].trade(buyer, seller, thing, count)

    def notice(self, member):
        """Marks a member, any object; whether it was not marked already."""
        if self.is_marked(member):
            return False
        self._ledgers[-1].mark(member, "notice")
        return True

    def do(self, deed):
        """Does a deed, any object: calls the method of this name and returns what it returns."""
        match deed:
            case ["enter", node, move]:
                return self.enter(node, move)
            case ["order", member, thing, side, count, limit]:
                return self.order(member, thing, side, count, limit)
            case ["cancel", number]:
                return self.cancel(number)
            case ["pay_in", member, amount]:
                return self.pay_in(member, amount)
            case ["pay_out", member, amount]:
                return self.pay_out(member, amount)
            case ["apart", member, parcel, count]:
                return self.apart(member, parcel, count)
            case ["together", member, parcel, count]:
                return self.together(member, parcel, count)
            case ["trade", buyer, seller, thing, count]:
                return self.trade(buyer, seller, thing, count)
            case ["notice", member]:
                return self.notice(member)
            case _:
                raise BadDeed(deed)

    def group_of(self, member):
        """The name of the group of the member, any object."""
        self._check_member(member)
        return self._groups[member]

    def cash_of(self, member):
        """The cash of the member, any object."""
        self._check_member(member)
        return self._ledgers[-1].cash[member]

    def position_of(self, member):
        """The position of the holdings of the member, any object."""
        self._check_member(member)
        return self._ledgers[-1].held[member].position_now()

    def holdings_of(self, member):
        """The pairs (thing, pieces) that the member, any object, holds."""
        self._check_member(member)
        return tuple(self._ledgers[-1].held[member])

    def orders_of(self, member):
        """The pairs (number, order) of the open orders of the member, any object."""
        self._check_member(member)
        return self._ledgers[-1].book.open_of(member)

    def is_marked(self, member):
        """Whether the member, any object, is marked."""
        self._check_member(member)
        return self._ledgers[-1].marked[member]

    def account_of(self, member):
        """The account of the member, any object."""
        orders = [order for _, order in self.orders_of(member)]
        return Account(self.cash_of(member), self.position_of(member), orders, parcels=self.parcels)

    def slack_of(self, member):
        """The least slack of the account of the member, any object, at the told prices."""
        return self._slack(member, self.account_of(member))

    def daybook(self):
        """The day book of what has happened so far."""
        return DayBook(self._ledgers[-1].happenings)

    def trial(self):
        """An object for one block behind which the house is as it was ahead of it."""
        return Trial(self, self._ledgers)

    def _slack(self, member, account):
        return worst_fill(account, self.told_prices, self.plan.cover_table(self._groups[member])).slack

    def _fails_look(self, node, member):
        """Whether the member is looked at here and must be marked."""
        if self.is_marked(member) or not self.plan.looks_at(node, self._groups[member]):
            return False
        return self.slack_of(member) < 0

    def _check_way(self, node):
        """Raises what is wrong with going on to the node, any object, whatever the move."""
        place = self.place_now
        self.plan.check_node(node)
        calms = [calm for other, calm in self.plan.followers(place) if other == node]
        if not calms:
            raise NoEdge(place, node)
        if calms[0] is not None and not fits(self._ledgers[-1].move, self.plan.table_named(calms[0])):
            raise NotCalm(place, node)

    def _checked_move(self, node, move):
        """The move, any object, with which the node is entered, as a tuple, or None."""
        step = self.plan.step(node)
        if step[0] != "move":
            if move is not None:
                raise BadMove("given")
            return None
        if move is None:
            raise BadMove("missing")
        told = check_move(self.plan.goods, move)
        if not fits(told, self.plan.table_named(step[1])):
            raise BadMove("table")
        return told

    def _check_kind(self, kind, deed):
        """Raises NotNow with the word of the deed unless the house stands at a node of this kind."""
        place = self.place_now
        if place is None or self.plan.kind(place) != kind:
            raise NotNow(deed)

    def _check_member(self, thing):
        if thing not in self.member_names:
            raise NoMember(thing)

    def _check_unmarked(self, member):
        if self.is_marked(member):
            raise Marked(member)

    def _check_desk(self, deed, member):
        """Raises what forbids a deed of the member, any object, at a desk."""
        self._check_kind("desk", deed)
        self._check_unmarked(member)

    def _check_payment(self, deed, member, amount):
        """Raises what forbids a payment of the amount; it and the member are any objects."""
        self._check_desk(deed, member)
        if not is_whole(amount, 1, MOST_CASH):
            raise BadAmount(amount)

    def _check_covered(self, member, account):
        """Raises NotCovered if the member would not be covered with this account."""
        least = self._slack(member, account)
        if least < 0:
            raise NotCovered(member, -least)
