"""Numbers, names, goods and assets: what every other module checks first."""

from coveredday.errors import BadGoods, NoAsset, OtherGoods

MOST = 10 ** 12
MOST_COUNT = 10 ** 6
MOST_CASH = 10 ** 18

_CASH = "cash"
_LETTERS = "abcdefghijklmnopqrstuvwxyz"
_LONGEST_NAME = 12
_MOST_GOODS = 5


def is_integer(thing):
    """Whether thing, any object, is a whole number of any size."""
    return isinstance(thing, int) and not isinstance(thing, bool)


def is_whole(thing, low, high):
    """Whether thing, any object, is a whole number from low to high."""
    return is_integer(thing) and low <= thing <= high


def is_sequence(thing):
    """Whether thing, any object, is a sequence that may be passed in."""
    return isinstance(thing, (list, tuple))


def is_row(thing, length):
    """Whether thing, any object, is a sequence of so many items."""
    return is_sequence(thing) and len(thing) == length


def is_number_row(thing, length):
    """Whether thing, any object, is a sequence of so many whole numbers."""
    return is_row(thing, length) and all([is_integer(number) for number in thing])


def as_tuples(thing):
    """The thing, any object, with all lists in it, at any depth, as tuples."""
    if not is_sequence(thing):
        return thing
    return tuple([as_tuples(part) for part in thing])


def is_name(thing):
    """Whether thing, any object, is a name."""
    if not isinstance(thing, str) or not 1 <= len(thing) <= _LONGEST_NAME:
        return False
    return all([letter in _LETTERS for letter in thing])


def is_thing_name(thing):
    """Whether thing, any object, may name what is traded: a good or a parcel."""
    return is_name(thing) and thing != _CASH


def checked_goods(goods):
    """The goods as a tuple; goods is any object."""
    if not is_sequence(goods) or not 1 <= len(goods) <= _MOST_GOODS:
        raise BadGoods("goods")
    told = tuple(goods)
    if not all([is_name(good) for good in told]):
        raise BadGoods("name")
    if _CASH in told:
        raise BadGoods("cash")
    if len(set(told)) < len(told):
        raise BadGoods("double")
    return told


def assets(goods):
    """The assets of these goods, in their order."""
    return (_CASH,) + checked_goods(goods)


def pairs_of(known):
    """All pairs of these assets, in the order of pairs."""
    return tuple([(up, down) for up in known for down in known if up != down])


def check_asset(known, thing):
    """Raises NoAsset unless thing, any object, is one of the known assets."""
    if thing not in known:
        raise NoAsset(thing)


def check_same_goods(goods, *others):
    """Raises OtherGoods unless all others are of these goods, in this order."""
    for other in others:
        if other.goods != goods:
            raise OtherGoods()
