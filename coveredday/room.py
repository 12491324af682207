"""The room of an account: how much of one more order it can bear."""

from coveredday.account import MOST_ORDERS, orders_fault
from coveredday.errors import BadAccount
from coveredday.fills import is_covered


def room(account, order, prices, table):
    """The greatest count with which the order, any object, may be added; 0 if there is none."""
    word = orders_fault(account.orders + (order,), account.parcels)
    if word is not None:
        raise BadAccount(word)
    if not is_covered(account, prices, table) or len(account.orders) == MOST_ORDERS:
        return 0
    # The account is covered with low pieces more, and is not with high ones.
    low = 0
    high = order.count + 1
    while high - low > 1:
        middle = (low + high) // 2
        if is_covered(account.with_order(order.of_count(middle)), prices, table):
            low = middle
        else:
            high = middle
    return low
