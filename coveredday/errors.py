"""All errors of the program."""


class MarketError(ValueError):
    """Any error of the program."""


class BadGoods(MarketError):
    """Goods are wrong; what is the word of [1.3]."""
    def __init__(self, what):
        self.what = what


class BadOrder(MarketError):
    """An order is wrong; what names its first wrong part."""
    def __init__(self, what):
        self.what = what


class NoOrder(MarketError):
    """No order with this number rests in the book."""
    def __init__(self, number):
        self.number = number


class NoAsset(MarketError):
    """The object is not an asset (a good, where only goods are asked for)."""
    def __init__(self, name):
        self.name = name


class BadPosition(MarketError):
    """The counts of a position are wrong."""
    def __init__(self, what):
        self.what = what


class NoThing(MarketError):
    """The object is not a thing (a parcel, where only parcels are asked for)."""
    def __init__(self, thing):
        self.thing = thing


class OtherGoods(MarketError):
    """Two objects are not of the same goods in the same order."""


class BadPrices(MarketError):
    """Prices are not a sequence of one whole number for each good."""


class BadParcels(MarketError):
    """The row of parcels at the index is wrong; None if it is the rows as such."""
    def __init__(self, index, what):
        self.index = index
        self.what = what


class NotHeld(MarketError):
    """So many pieces cannot be taken apart or put together."""
    def __init__(self, parcel, count):
        self.parcel = parcel
        self.count = count


class BadTable(MarketError):
    """The row of a table at the index is wrong; None if it is the rows as such."""
    def __init__(self, index, what):
        self.index = index
        self.what = what


class OpenTable(MarketError):
    """The rows of a table have no chain for this pair."""
    def __init__(self, up, down):
        self.up = up
        self.down = down


class LowTable(MarketError):
    """The closed entry of this pair is less than what is to be taken from it."""
    def __init__(self, up, down):
        self.up = up
        self.down = down


class BadMove(MarketError):
    """A move is wrong."""
    def __init__(self, what):
        self.what = what


class BadAccount(MarketError):
    """What an account is made of is wrong."""
    def __init__(self, what):
        self.what = what


class BadFill(MarketError):
    """The fill of an account is wrong at the index; None if it is no sequence."""
    def __init__(self, index):
        self.index = index


class BadText(MarketError):
    """A text is wrong at the line."""
    def __init__(self, line, what):
        self.line = line
        self.what = what


class BadPlan(MarketError):
    """What a plan is made of is wrong."""
    def __init__(self, what, at):
        self.what = what
        self.at = at


class NoNode(MarketError):
    """The plan has no such node."""
    def __init__(self, node):
        self.node = node


class NoGroup(MarketError):
    """The plan has no such group."""
    def __init__(self, group):
        self.group = group


class NoTable(MarketError):
    """The plan has no table of this name."""
    def __init__(self, name):
        self.name = name


class NoEdge(MarketError):
    """The plan has no edge from the one to the other."""
    def __init__(self, one, other):
        self.one = one
        self.other = other


class NoPhase(MarketError):
    """There is no such phase."""
    def __init__(self, phase):
        self.phase = phase


class NoWalk(MarketError):
    """The nodes are no walk; at is the first place that cannot follow."""
    def __init__(self, at):
        self.at = at


class NoWindow(MarketError):
    """The window is none of the plan."""
    def __init__(self, what):
        self.what = what


class BadHouse(MarketError):
    """What a house is made of is wrong."""
    def __init__(self, what, at):
        self.what = what
        self.at = at


class NotCalm(MarketError):
    """The move does not lie within the calm table of the edge."""
    def __init__(self, one, other):
        self.one = one
        self.other = other


class NotNow(MarketError):
    """The deed is not possible at this place."""
    def __init__(self, deed):
        self.deed = deed


class NoMember(MarketError):
    """The house has no such member."""
    def __init__(self, member):
        self.member = member


class Marked(MarketError):
    """The member is marked."""
    def __init__(self, member):
        self.member = member


class TooMany(MarketError):
    """The member has as many open orders as it may have."""
    def __init__(self, member):
        self.member = member


class NotCovered(MarketError):
    """The member would not be covered; so much is lacking."""
    def __init__(self, member, lacking):
        self.member = member
        self.lacking = lacking


class OwnTrade(MarketError):
    """The member would trade with itself."""
    def __init__(self, member):
        self.member = member


class BadAmount(MarketError):
    """The amount is not possible."""
    def __init__(self, amount):
        self.amount = amount


class BadDeed(MarketError):
    """The object is no deed."""
    def __init__(self, deed):
        self.deed = deed


class BadEnd(MarketError):
    """The object is not an end of windows."""
    def __init__(self, end):
        self.end = end


class SamePair(MarketError):
    """Both assets of a pair are this one."""
    def __init__(self, asset):
        self.asset = asset


class Endless(MarketError):
    """The sums of these windows have no greatest."""
    def __init__(self, group, end, up, down):
        self.group = group
        self.end = end
        self.up = up
        self.down = down


class BadBreach(MarketError):
    """The breach has the fault that the word tells."""
    def __init__(self, word):
        self.word = word


class TooLong(MarketError):
    """The day would have too many steps."""
    def __init__(self, steps):
        self.steps = steps


class BadView(MarketError):
    """What a view is made of is wrong."""
    def __init__(self, what):
        self.what = what


class BadSight(MarketError):
    """The object is no sight."""
    def __init__(self, word):
        self.word = word


class NotSeen(MarketError):
    """The sight cannot be seen next."""
    def __init__(self, word):
        self.word = word


class BadTurns(MarketError):
    """The object is no number of turns."""
    def __init__(self, turns):
        self.turns = turns


class BadChange(MarketError):
    """The change at the index has not the right shape."""
    def __init__(self, index):
        self.index = index


class CannotBe(MarketError):
    """The change at the index cannot be done."""
    def __init__(self, index):
        self.index = index


class TooManyChanges(MarketError):
    """There are more changes than there may be."""
    def __init__(self, count):
        self.count = count


class NoChoice(MarketError):
    """The object is no choice of the pool."""
    def __init__(self, thing):
        self.thing = thing


class BadNames(MarketError):
    """The name at the index is wrong."""
    def __init__(self, index):
        self.index = index


class TooManyTables(MarketError):
    """The plan would have more tables than it may have."""
    def __init__(self, count):
        self.count = count


class OtherGroups(MarketError):
    """Two plans have not the same groups in the same order."""
