"""The errors of this package, one class for each kind of failure, all under WalkError."""


class WalkError(ValueError):
    """The base of all errors of this package."""


class InvalidWalk(WalkError):
    """A value is no walk."""

    def __init__(self, given):
        self.given = given


class InvalidWeights(WalkError):
    """A value is no weights."""

    def __init__(self, given):
        self.given = given


class InvalidRing(WalkError):
    """A value is no ring of the walk's places."""

    def __init__(self, given):
        self.given = given


class InvalidLot(WalkError):
    """A value is no lot of places."""

    def __init__(self, given):
        self.given = given


class InvalidNumber(WalkError):
    """A value is no number, or place, of the kind that is asked for."""

    def __init__(self, given):
        self.given = given


class InvalidFraction(WalkError):
    """A value is no fraction of the kind that is asked for."""

    def __init__(self, given):
        self.given = given


class InvalidFlow(WalkError):
    """A value is no flow between the two places."""

    def __init__(self, given):
        self.given = given


class InvalidTable(WalkError):
    """A value is no table of fractions."""

    def __init__(self, given):
        self.given = given


class InvalidGlasses(WalkError):
    """A value is no glasses."""

    def __init__(self, given):
        self.given = given


class InvalidSighted(WalkError):
    """A value is no sighted walk."""

    def __init__(self, given):
        self.given = given


class InvalidTold(WalkError):
    """A value is nothing told."""

    def __init__(self, given):
        self.given = given


class InvalidChances(WalkError):
    """A value is no row of chances."""

    def __init__(self, given):
        self.given = given


class NoRow(WalkError):
    """A place of a walk has no line."""

    def __init__(self, given):
        self.given = given


class NotADesk(WalkError):
    """A value is no desk."""

    def __init__(self, given):
        self.given = given


class TooMany(WalkError):
    """There are too many trees."""

    def __init__(self, given):
        self.given = given


class InvalidPlaces(WalkError):
    """A value is no row of places; `index` tells the first wrong one."""

    def __init__(self, index):
        self.index = index


class InvalidShares(WalkError):
    """A value is no row of shares; `index` tells the first wrong one."""

    def __init__(self, index):
        self.index = index


class InvalidRow(WalkError):
    """A value is no row; `index` tells the first wrong element."""

    def __init__(self, index):
        self.index = index


class InvalidTies(WalkError):
    """A value is no row of ties; `index` tells the first wrong one."""

    def __init__(self, index):
        self.index = index


class InvalidText(WalkError):
    """A text is not of the form."""

    def __init__(self, line, place):
        self.line = line
        self.place = place


class TwiceNamed(WalkError):
    """A name stands twice in a text."""

    def __init__(self, line, place):
        self.line = line
        self.place = place


class UnknownName(WalkError):
    """A name in a text is that of no place."""

    def __init__(self, line, place):
        self.line = line
        self.place = place


class NoSum(WalkError):
    """The numbers of a line have a wrong sum."""

    def __init__(self, line, place):
        self.line = line
        self.place = place


class NotAlike(WalkError):
    """A walk is not alike backwards, as `ring` shows."""

    def __init__(self, ring):
        self.ring = ring


class NotWhole(WalkError):
    """A table is not whole."""


class NotOfThisKind(WalkError):
    """What is told is of the other kind."""


class NothingToUndo(WalkError):
    """There is no change to undo."""
