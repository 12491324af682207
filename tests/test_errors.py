"""[0.5] and the interface of coveredday.errors."""

import unittest

from coveredday import errors
from coveredday.errors import MarketError
from tests.common import Promises

LISTED = """
BadGoods(what) BadOrder(what) NoOrder(number) NoAsset(name) BadPosition(what) NoThing(thing) OtherGoods()
BadPrices() BadParcels(index, what) NotHeld(parcel, count) BadTable(index, what) OpenTable(up, down)
LowTable(up, down) BadMove(what) BadAccount(what) BadFill(index) BadText(line, what) BadPlan(what, at)
NoNode(node) NoGroup(group) NoTable(name) NoEdge(one, other) NoPhase(phase) NoWalk(at) NoWindow(what)
BadHouse(what, at) NotCalm(one, other) NotNow(deed) NoMember(member) Marked(member) TooMany(member)
NotCovered(member, lacking) OwnTrade(member) BadAmount(amount) BadDeed(deed) BadEnd(end) SamePair(asset)
Endless(group, end, up, down) BadBreach(word) TooLong(steps) BadView(what) BadSight(word) NotSeen(word)
BadTurns(turns) BadChange(index) CannotBe(index) TooManyChanges(count) NoChoice(thing) BadNames(index)
TooManyTables(count) OtherGroups()
"""


def listed():
    """The pairs (name, arguments) of all errors that the document lists."""
    for part in LISTED.replace("\n", " ").split(")")[:-1]:
        name, arguments = part.strip().split("(")
        yield name, [word for word in arguments.split(", ") if word]


class TestErrors(Promises):
    def test_market_error_is_a_value_error(self):
        self.assertEqual(MarketError.__bases__, (ValueError,))

    def test_all_errors_are_listed_and_stand_directly_under_market_error(self):
        names = [name for name, _ in listed()]
        self.assertEqual(len(names), 51)
        found = [name for name, thing in vars(errors).items() if isinstance(thing, type)]
        self.assertEqual(sorted(found), sorted(names + ["MarketError"]))
        for name in names:
            self.assertEqual(getattr(errors, name).__bases__, (MarketError,))
            self.assertEqual(getattr(errors, name).__module__, "coveredday.errors")

    def test_arguments_are_attributes_in_their_order(self):
        for name, arguments in listed():
            objects = [[name, number] for number in range(len(arguments))]
            for error in (getattr(errors, name)(*objects), getattr(errors, name)(**dict(zip(arguments, objects)))):
                self.assertEqual(list(vars(error).items()), list(zip(arguments, objects)))
                for argument, thing in zip(arguments, objects):
                    self.assertIs(getattr(error, argument), thing)

    def test_errors_take_just_their_arguments(self):
        for name, arguments in listed():
            with self.assertRaises(TypeError):
                getattr(errors, name)(**{"other" + argument: 1 for argument in arguments + ["more"]})


if __name__ == "__main__":
    unittest.main()
