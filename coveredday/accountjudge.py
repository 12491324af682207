"""Certificates that an account is covered or is not, and their judges, which search nothing."""

from coveredday.coverjudge import pairs_fault
from coveredday.errors import BadFill, BadPrices
from coveredday.fills import equity, worst_fill
from coveredday.moves import first_broken
from coveredday.names import check_same_goods, is_number_row, is_row
from coveredday.pairing import cost_of, pairing


def _copied(thing):
    """A copy of any object in which no list is that of the caller."""
    if isinstance(thing, list):
        return [_copied(part) for part in thing]
    if isinstance(thing, tuple):
        return tuple([_copied(part) for part in thing])
    return thing


def _kept(thing):
    """What a certificate keeps of an argument, any object: an outer list becomes a tuple."""
    kept = _copied(thing)
    return tuple(kept) if isinstance(kept, list) else kept


class Covered:
    """Shows that an account is covered: for each corner a pairing that the equity pays."""

    def __init__(self, pairings):
        self.pairings = _kept(pairings)

    @property
    def is_covered(self):
        """True."""
        return True


class Lacking:
    """Shows that an account is not covered: a fill and a move behind which the equity is below 0."""

    def __init__(self, taken, move):
        self.taken = _kept(taken)
        self.move = _kept(move)

    @property
    def is_covered(self):
        """False."""
        return False


def _check_market(position, prices, table):
    """Raises BadPrices, then OtherGoods, unless prices, any object, and the table are of the position's goods."""
    if not is_number_row(prices, len(position.goods)):
        raise BadPrices()
    check_same_goods(position.goods, table)


def certificate(account, prices, table):
    """A Covered or a Lacking, whichever is right."""
    worst = worst_fill(account, prices, table)
    if worst.slack < 0:
        return Lacking(worst.taken, worst.cover.move)
    positions = [account.filled(taken)[1] for taken in account.corners()]
    return Covered([pairing(position, table) for position in positions])


def covered_fault(account, prices, table, covered):
    """What is wrong with a Covered of any object, as a tuple that begins with a word, or None."""
    _check_market(account.position, prices, table)
    rows = [account.filled(taken) for taken in account.corners()]
    if not is_row(covered.pairings, len(rows)):
        return ("pairings",)
    for index, (cash, position) in enumerate(rows):
        pairs = covered.pairings[index]
        word = pairs_fault(position, pairs)
        if word is not None:
            return "pairs", index, word
        lacking = cost_of(pairs, table) - equity(cash, position, prices)
        if lacking > 0:
            return "cost", index, lacking
    return None


def lacking_fault(account, prices, table, lacking):
    """What is wrong with a Lacking of any objects, as a tuple that begins with a word, or None."""
    _check_market(account.position, prices, table)
    try:
        cash, position = account.filled(lacking.taken)
    except BadFill as fault:
        return "taken", fault.index
    if not is_number_row(lacking.move, len(table.goods)):
        return ("move",)
    broken = first_broken(lacking.move, table)
    if broken is not None:
        return "pair", broken[0], broken[1]
    amount = equity(cash, position, [price + change for price, change in zip(prices, lacking.move)])
    if amount >= 0:
        return "equity", amount
    return None
