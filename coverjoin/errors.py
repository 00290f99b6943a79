"""The errors of the package, all of them directly below JoinError."""


class JoinError(ValueError):
    """Something that was passed is not as the document describes it."""


class BadAbove(JoinError):
    """The numbers above an attribute are not as described."""


class BadAnswer(JoinError):
    """The answer is not as described."""


class BadAnswers(JoinError):
    """The list of answers is not as described."""


class BadAtom(JoinError):
    """There is no atom of this number."""


class BadAttribute(JoinError):
    """There is no such attribute here."""


class BadAttributes(JoinError):
    """The attributes are no ascending tuple of attributes."""


class BadBag(JoinError):
    """The bag is none."""


class BadBits(JoinError):
    """The number of bits is not as described."""


class BadBox(JoinError):
    """The box is none, or none for these attributes."""


class BadBoxes(JoinError):
    """The boxes are no list of boxes."""


class BadChanges(JoinError):
    """The changes are no list of changes."""


class BadColouring(JoinError):
    """The colouring is none for the query and its keys."""


class BadCore(JoinError):
    """The core is none of the query."""


class BadCorner(JoinError):
    """The corner is none."""


class BadCounts(JoinError):
    """The counts are none for the query."""


class BadCover(JoinError):
    """The cover is none."""


class BadCut(JoinError):
    """The cut at this place is none, or cannot be done."""

    def __init__(self, at):
        self.at = at


class BadCuts(JoinError):
    """The cuts are no tuple."""


class BadExponents(JoinError):
    """The exponents are none for the query."""


class BadForest(JoinError):
    """The forest is none for the query."""


class BadGone(JoinError):
    """What is gone is not as described."""


class BadIndex(JoinError):
    """There is no table of this index."""


class BadKeys(JoinError):
    """The keys are none for the query."""


class BadKnown(JoinError):
    """The known attributes are not as described."""


class BadLayout(JoinError):
    """The layout is none for the query."""


class BadLeft(JoinError):
    """The left row is not as described."""


class BadLevel(JoinError):
    """There is no such level here."""


class BadLine(JoinError):
    """The line is no string."""


class BadLists(JoinError):
    """The lists are not as described."""


class BadLots(JoinError):
    """The lots are not as described."""


class BadMany(JoinError):
    """There are not so many attributes."""


class BadMatrix(JoinError):
    """The matrix is not as described."""


class BadMost(JoinError):
    """The greatest number that is let is not as described."""


class BadNode(JoinError):
    """The atoms of a node are not as described."""


class BadNumber(JoinError):
    """The number is not as described."""


class BadNumbers(JoinError):
    """The numbers are none for the query."""


class BadOrder(JoinError):
    """The order is none of the query."""


class BadPair(JoinError):
    """The pair is none of the query."""


class BadPlace(JoinError):
    """There is no such place."""


class BadPlaces(JoinError):
    """The places are no order of the query."""


class BadPlan(JoinError):
    """The plan is none of the query."""


class BadPoint(JoinError):
    """The point is none."""


class BadPoints(JoinError):
    """The points are no list of points."""


class BadPowers(JoinError):
    """The powers do not fit the counts."""


class BadProgram(JoinError):
    """The program is none for the query."""


class BadQuery(JoinError):
    """The query is none."""


class BadRight(JoinError):
    """The right row is not as described."""


class BadRoot(JoinError):
    """The root is not as described."""


class BadRow(JoinError):
    """The row is none for the atom."""


class BadRule(JoinError):
    """There is no such rule here."""


class BadShares(JoinError):
    """The shares are none for the query."""


class BadSize(JoinError):
    """The size is not as described."""


class BadStart(JoinError):
    """The start is none of the table, or a whole row."""


class BadStore(JoinError):
    """The store is none for the query."""


class BadText(JoinError):
    """The text goes wrong at this line."""

    def __init__(self, at):
        self.at = at


class BadThrifty(JoinError):
    """It is neither True nor False whether tables are thrifty."""


class BadTree(JoinError):
    """The tree is none for the query."""


class BadValues(JoinError):
    """The store has numbers that are too great."""


class BadWanted(JoinError):
    """What is wanted is no ascending tuple of attributes."""


class BadWeights(JoinError):
    """The weights do not fit."""


class BadWide(JoinError):
    """The lots have unlike numbers of wished attributes."""


class BadWished(JoinError):
    """What is wished is no ascending tuple of attributes."""


class Cyclic(JoinError):
    """The query is cyclic, by this knot."""

    def __init__(self, knot):
        self.knot = knot


class NoAnswer(JoinError):
    """There is no such answer."""


class NoKnot(JoinError):
    """The query has no knot."""


class NoPath(JoinError):
    """What is wished has no path."""


class NotConnected(JoinError):
    """What is wished is not connected, by this path."""

    def __init__(self, path):
        self.path = path


class NotHierarchical(JoinError):
    """The query is not hierarchical, by this pair."""

    def __init__(self, pair):
        self.pair = pair


class NotSimple(JoinError):
    """A key has more than one teller."""


class NotSmooth(JoinError):
    """The order is not smooth, by this trio."""

    def __init__(self, trio):
        self.trio = trio


class NotThere(JoinError):
    """The row is not there."""


class There(JoinError):
    """The row is there already."""


class TooMany(JoinError):
    """There would be more than this."""

    def __init__(self, most):
        self.most = most
