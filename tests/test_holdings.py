"""[2.7], [2.8] and the interface of coveredday.holdings."""

import random
import unittest
from itertools import product

from coveredday.errors import NotHeld, NoThing
from coveredday.holdings import Holdings
from coveredday.parcels import Parcels
from coveredday.position import Position
from tests.common import THINGS, Promises

GOODS = ("oil", "rye")
ROWS = (("mix", (("oil", 2), ("rye", -1))), ("crate", (("rye", 3), ("mix", -2))), ("pile", (("crate", 2),)))
PARCELS = Parcels(GOODS, ROWS)
HUGE = 10 ** 40


def holding(**pieces):
    """Holdings of the parcels above with these pieces."""
    holdings = Holdings(PARCELS)
    for thing, count in pieces.items():
        holdings.put(thing, count)
    return holdings


def can_turn(pieces, parcel, count, apart):
    """Whether count pieces can be taken apart, or put together, worked out anew."""
    if apart:
        return pieces[parcel] >= count
    needs = [(pieces[thing], count * many) for thing, many in dict(ROWS)[parcel]]
    return all(have >= need if need > 0 else have <= need for have, need in needs)


class TestPieces(Promises):
    def test_nothing_at_first(self):
        holdings = Holdings(PARCELS)
        self.assertTrue(holdings.parcels == PARCELS)
        self.same([holdings.count_of(thing) for thing in PARCELS.things], [0] * 5)
        self.same((list(holdings), holdings.position_now().counts), ([], (0, 0)))

    def test_put(self):
        holdings = Holdings(PARCELS)
        self.assertIsNone(holdings.put("crate", 4))
        holdings.put("oil", -HUGE)
        holdings.put("crate", -5)
        holdings.put("rye", 0)
        self.same([holdings.count_of(thing) for thing in PARCELS.things], [-HUGE, 0, 0, -1, 0])

    def test_no_thing(self):
        holdings = holding(oil=3)
        for thing in THINGS + ("tin",):
            if thing not in ("oil", "rye"):
                self.fails(NoThing, (thing,), holdings.put, thing, 1)
                self.fails(NoThing, (thing,), holdings.count_of, thing)
            for call in (holdings.greatest_apart, holdings.greatest_together):
                self.fails(NoThing, (thing,), call, thing)
            for call in (holdings.take_apart, holdings.put_together):
                self.fails(NoThing, (thing,), call, thing, 1)
                self.fails(NoThing, (thing,), call, thing, None)
        self.same(list(holdings), [("oil", 3)])

    def test_iteration_gives_other_than_0_in_the_order_of_things(self):
        holdings = holding(pile=1, mix=-4, oil=2)
        self.same(list(holdings), [("oil", 2), ("mix", -4), ("pile", 1)])
        holdings.put("mix", 4)
        holdings.put("rye", 1)
        self.same(list(holdings), [("oil", 2), ("rye", 1), ("pile", 1)])

    def test_holdings_may_be_changed_while_they_are_gone_through(self):
        holdings = holding(oil=2, rye=3)
        for thing, pieces in holdings:
            holdings.put(thing, -pieces)
        self.same(list(holdings), [])

    def test_position_now(self):
        for pieces in product((-2, 0, 3), repeat=5):
            holdings = holding(**dict(zip(PARCELS.things, pieces)))
            oil, rye, mix, crate, pile = pieces
            crates = crate + 2 * pile
            right = (oil + 2 * mix - 4 * crates, rye - mix + 5 * crates)
            self.assertTrue(holdings.position_now() == Position(GOODS, right))

    def test_clear(self):
        holdings = holding(oil=2, pile=-3)
        self.assertIsNone(holdings.clear())
        self.same((list(holdings), holdings.position_now().counts, holdings.count_of("pile")), ([], (0, 0), 0))
        holdings.put("pile", 1)
        self.same(list(holdings), [("pile", 1)])

    def test_copies_go_on_by_themselves(self):
        holdings = holding(oil=2, mix=3)
        copy = holdings.copied()
        self.assertTrue(copy.parcels == PARCELS)
        self.same(list(copy), [("oil", 2), ("mix", 3)])
        copy.put("oil", 5)
        copy.take_apart("mix", 1)
        self.same((list(holdings), holdings.count_of("mix")), ([("oil", 2), ("mix", 3)], 3))
        holdings.clear()
        self.same(list(copy), [("oil", 9), ("rye", -1), ("mix", 2)])

    def test_a_position_that_was_returned_stays(self):
        holdings = holding(oil=2)
        position = holdings.position_now()
        holdings.put("oil", 1)
        self.same((position.counts, holdings.position_now().counts), ((2, 0), (3, 0)))


class TestTurning(Promises):
    def test_take_apart(self):
        holdings = holding(crate=5, oil=1)
        self.assertIsNone(holdings.take_apart("crate", 3))
        self.same(list(holdings), [("oil", 1), ("rye", 9), ("mix", -6), ("crate", 2)])

    def test_put_together(self):
        holdings = holding(rye=10, mix=-6, oil=1)
        self.assertIsNone(holdings.put_together("crate", 3))
        self.same(list(holdings), [("oil", 1), ("rye", 1), ("crate", 3)])

    def test_only_the_contents_themselves_count(self):
        holdings = holding(pile=1)
        self.fails(NotHeld, ("crate", 1), holdings.take_apart, "crate", 1)
        holdings = holding(oil=100, rye=-100)
        self.fails(NotHeld, ("crate", 1), holdings.put_together, "crate", 1)
        self.fails(NotHeld, ("pile", 1), holdings.put_together, "pile", 1)

    def test_all_small_holdings(self):
        for oil, rye, mix, crate in product((-3, -2, 0, 3, 4, 6), (-4, -2, 0, 1, 3, 7), (-4, -3, 0, 2), (-1, 0, 2)):
            pieces = dict(zip(PARCELS.things, (oil, rye, mix, crate, 0)))
            for parcel, apart in product(("mix", "crate", "pile"), (True, False)):
                can = [count for count in range(1, 9) if can_turn(pieces, parcel, count, apart)]
                asked = holding(**pieces)
                greatest = asked.greatest_apart if apart else asked.greatest_together
                self.same(greatest(parcel), max(can, default=0))
                for count in range(1, 9):
                    self.turn(pieces, parcel, count, apart, count in can)

    def turn(self, pieces, parcel, count, apart, can):
        """Turns count pieces and looks at what becomes of them."""
        holdings = holding(**pieces)
        position = holdings.position_now()
        call = holdings.take_apart if apart else holdings.put_together
        after = dict(pieces)
        if can:
            call(parcel, count)
            sign = 1 if apart else -1
            after[parcel] -= sign * count
            for thing, many in dict(ROWS)[parcel]:
                after[thing] += sign * count * many
        else:
            self.fails(NotHeld, (parcel, count), call, parcel, count)
        self.same([holdings.count_of(thing) for thing in PARCELS.things], list(after.values()))
        self.assertTrue(holdings.position_now() == position)

    def test_wrong_counts(self):
        holdings = holding(mix=HUGE, oil=HUGE, rye=-HUGE)
        before = list(holdings)
        for call in (holdings.take_apart, holdings.put_together):
            for thing in THINGS + (10 ** 6 + 1,):
                if not (type(thing) is int and 1 <= thing <= 10 ** 6):
                    self.fails(NotHeld, ("mix", thing), call, "mix", thing)
        self.same(list(holdings), before)

    def test_no_call_turns_more_than_a_million(self):
        for mix in (10 ** 6 - 1, 10 ** 6, 10 ** 6 + 1, HUGE):
            holdings = holding(mix=mix)
            self.same(holdings.greatest_apart("mix"), min(mix, 10 ** 6))
            holdings.take_apart("mix", min(mix, 10 ** 6))
            self.same(holdings.count_of("mix"), max(0, mix - 10 ** 6))
            holdings = holding(oil=2 * mix + 1, rye=-mix)
            self.same(holdings.greatest_together("mix"), min(mix, 10 ** 6))
            holdings.put_together("mix", min(mix, 10 ** 6))
            self.same(holdings.count_of("mix"), min(mix, 10 ** 6))

    def test_owed_pieces(self):
        holdings = holding(mix=-1, oil=-1, rye=-1)
        self.same((holdings.greatest_apart("mix"), holdings.greatest_together("mix")), (0, 0))
        self.fails(NotHeld, ("mix", 1), holdings.take_apart, "mix", 1)
        self.fails(NotHeld, ("mix", 1), holdings.put_together, "mix", 1)
        self.same(holding(mix=-7, rye=100).greatest_together("crate"), 3)


class TestAllApart(Promises):
    def test_from_the_last_to_the_first(self):
        holdings = holding(pile=3, crate=-1, mix=20)
        self.same(holdings.all_apart(), (("pile", 3), ("crate", 5), ("mix", 10)))
        self.same(list(holdings), [("oil", 20), ("rye", 5)])

    def test_nothing_to_take_apart(self):
        holdings = holding(oil=3, mix=-2)
        self.same((holdings.all_apart(), list(holdings)), ((), [("oil", 3), ("mix", -2)]))

    def test_owed_parcels_stay_owed(self):
        holdings = holding(crate=2, pile=-1)
        self.same(holdings.all_apart(), (("crate", 2),))
        self.same(list(holdings), [("rye", 6), ("mix", -4), ("pile", -1)])

    def test_however_many(self):
        holdings = holding(pile=HUGE)
        self.same(holdings.all_apart(), (("pile", HUGE), ("crate", 2 * HUGE)))
        self.same(list(holdings), [("rye", 6 * HUGE), ("mix", -4 * HUGE)])

    def test_no_parcel_is_left_and_the_position_stays(self):
        chance = random.Random(7)
        for _ in range(300):
            holdings = holding(**{thing: chance.randint(-9, 9) for thing in PARCELS.things})
            position = holdings.position_now()
            told = holdings.all_apart()
            self.assertTrue(all(holdings.count_of(parcel) <= 0 for parcel, _ in ROWS))
            self.assertTrue(all(count > 0 for _, count in told))
            self.assertTrue(holdings.position_now() == position)
            self.same(holdings.all_apart(), ())


if __name__ == "__main__":
    unittest.main()
