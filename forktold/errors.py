"""The errors that the package raises.

Their messages name no value: what an error is about may be any value and is
kept in the attribute, just as it was passed.
"""


class ForkError(ValueError):
    """What all errors of this package are."""


class Unfit(ForkError):
    """Things of unlike sizes were passed together."""


class TooMany(ForkError):
    """There is more of something than a limit."""

    def __init__(self, limit):
        ForkError.__init__(self, "more than the limit")
        self.limit = limit


class BadText(ForkError):
    """A value is no text of a tree; place is how far it could be one."""

    def __init__(self, place):
        ForkError.__init__(self, "no text of a tree")
        self.place = place


class Cross(ForkError):
    """Two lots cross, or two halvings do not go together."""

    def __init__(self, pair):
        ForkError.__init__(self, "two lots cross")
        self.pair = pair


class Clash(ForkError):
    """What was passed is not all told by one tree; paper shows why."""

    def __init__(self, paper):
        ForkError.__init__(self, "not of one tree")
        self.paper = paper


class NotForked(ForkError):
    """A nest of a tree, or a knot of a web, has too many parts."""

    def __init__(self, nest):
        ForkError.__init__(self, "not forked")
        self.nest = nest


class NoWeb(ForkError):
    """Four words are not all four words of one web."""

    def __init__(self, error):
        ForkError.__init__(self, "the words of no web")
        self.error = error


class NotNest(ForkError):
    """A lot is none of the nests that are asked for."""

    def __init__(self, lot):
        ForkError.__init__(self, "not a nest")
        self.lot = lot


class NotOrder(ForkError):
    """A line does not keep the nest at a place."""

    def __init__(self, place):
        ForkError.__init__(self, "a nest does not stand together")
        self.place = place


class TooFar(ForkError):
    """A number is not below the count."""

    def __init__(self, count):
        ForkError.__init__(self, "there are not so many")
        self.count = count


class BadMap(ForkError):
    """A value is no map of the size."""


class NotTree(ForkError):
    """A value is no tree; error tells why."""

    def __init__(self, error):
        ForkError.__init__(self, "not a tree")
        self.error = error


class NotLeaf(ForkError):
    """A value is no leaf that is asked for."""

    def __init__(self, value):
        ForkError.__init__(self, "not a leaf")
        self.value = value


class NotLot(ForkError):
    """A value is no lot that is asked for."""

    def __init__(self, value):
        ForkError.__init__(self, "not a lot")
        self.value = value


class BadBatch(ForkError):
    """A value is no batch of edits."""


class Rejected(ForkError):
    """The edit at a place of a batch raised an error."""

    def __init__(self, index):
        ForkError.__init__(self, "an edit of the batch cannot be done")
        self.index = index


class TooManyEdits(ForkError):
    """As many edits stand as may."""


class NothingToUndo(ForkError):
    """No edit stands."""


class NothingToRedo(ForkError):
    """No edit was taken back."""


class NoVersion(ForkError):
    """A value is no version that stands."""

    def __init__(self, given):
        ForkError.__init__(self, "no such version")
        self.given = given


class Changed(ForkError):
    """An edit would change the shape; lot has all leaves of what would come."""

    def __init__(self, lot):
        ForkError.__init__(self, "the shape would change")
        self.lot = lot
