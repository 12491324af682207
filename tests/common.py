"""What the tests of all modules share."""

import unittest
from itertools import product

from coveredday.errors import MarketError

DEEP = [[[[[[[[[["oil"]]]]]]]]]]

# Objects of every kind that a caller may pass where an error is told for an argument.
THINGS = (
    None, True, False, 0, 1, -1, 4, 1000, 10 ** 6, 10 ** 12, -10 ** 12, 10 ** 18, 10 ** 40,
    "", "a", "oil", "rye", "Oil", "oil1", "o l", "\u00f6l", "oil\n", "cash", "twelveletter", "thirteenlette",
    "buy", "sell", [], (), [None], [True], [0], (0,), (1, True), (1, 2), [1, 2, 3], ("oil",), ["oil"],
    ["oil", "rye"], ("oil", "oil"), ("oil", 1), [["oil", 1]], (("oil", 1),), (("oil", "rye", 1),), DEEP,
)


class Promises(unittest.TestCase):
    """A test case that is strict about kinds: 1 is not True, a tuple is no list."""

    def same(self, value, expected):
        self.assertEqual(repr(value), repr(expected))

    def fails(self, error, attributes, call, *args, **named):
        """The call raises just this error, with these attributes in this order."""
        before = repr((args, named))
        with self.assertRaises(MarketError) as caught:
            call(*args, **named)
        self.assertIs(type(caught.exception), error)
        self.same(tuple(vars(caught.exception).values()), attributes)
        self.assertEqual(repr((args, named)), before)


def word_of(error, call, *args):
    """The word with which the call raises the error, or None if it raises nothing."""
    try:
        call(*args)
    except error as caught:
        return caught.what
    return None


def all_pairs(goods):
    """All pairs of unlike assets, in the order of pairs, worked out anew."""
    known = ("cash",) + tuple(goods)
    return [(up, down) for up in known for down in known if up != down]


def random_rows(chance, goods, mosts):
    """Rows of a table of these goods: a ring over all assets, so that it has chains, and some others."""
    ring = ["cash"] + list(goods)
    chance.shuffle(ring)
    needed = set(zip(ring, ring[1:] + ring[:1]))
    pairs = [pair for pair in all_pairs(goods) if pair in needed or chance.random() < 0.6]
    chance.shuffle(pairs)
    return [(up, down, chance.choice(mosts)) for up, down in pairs]


def moves_within(table):
    """All moves that lie within the table, found one by one."""
    ranges = [range(-table["cash", good], table[good, "cash"] + 1) for good in table.goods]
    for move in product(*ranges):
        changes = dict(zip(table.goods, move), cash=0)
        if all(changes[up] - changes[down] <= most for up, down, most in table.rows):
            yield move
