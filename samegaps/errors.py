"""The errors of Samegaps: one class for each kind of failure, all under GapError alone."""


class GapError(ValueError):
    """Whatever this package refuses."""


class InvalidRow(GapError):
    """What was passed is no ROW; index is that of its first wrong element, or None."""

    def __init__(self, index):
        self.index = index


class InvalidLengths(GapError):
    """What was passed are no LENGTHS; index is that of the first wrong one, or None."""

    def __init__(self, index):
        self.index = index


class InvalidRows(GapError):
    """What was passed are no ROWs; index is that of the first wrong one, or None."""

    def __init__(self, index):
        self.index = index


class InvalidMarks(GapError):
    """What was passed are no MARKS; index is that of the first wrong one, or None."""

    def __init__(self, index):
        self.index = index


class InvalidPoints(GapError):
    """What was passed is no POINT ROW; index is that of its first wrong element, or None."""

    def __init__(self, index):
        self.index = index


class InvalidLot(GapError):
    """What was passed is no lot; index is that of its first wrong place, or None."""

    def __init__(self, index):
        self.index = index


class InvalidNumbers(GapError):
    """What was passed are no such numbers; index is that of the first wrong one, or None."""

    def __init__(self, index):
        self.index = index


class InvalidText(GapError):
    """What was passed is no text of a ROW; index is that of the first wrong word, or None."""

    def __init__(self, index):
        self.index = index


class InvalidPlaces(GapError):
    """What was passed are no places; index is that of the first wrong one, or None."""

    def __init__(self, index):
        self.index = index


class InvalidPicture(GapError):
    """What was passed is no picture; place is that of the first wrong sign, or None."""

    def __init__(self, place):
        self.place = place


class InvalidWhole(GapError):
    """What was given is no whole number of the told ones."""

    def __init__(self, given):
        self.given = given


class InvalidHeap(GapError):
    """What was given is no HEAP of the told ones."""

    def __init__(self, given):
        self.given = given


class InvalidNumber(GapError):
    """What was given is no number of the told ones."""

    def __init__(self, given):
        self.given = given


class NotCore(GapError):
    """The ROW that was given is no core."""

    def __init__(self, given):
        self.given = given


class NotRuler(GapError):
    """The MARKS that were given are no ruler."""

    def __init__(self, given):
        self.given = given


class InvalidName(GapError):
    """What was given is no name."""

    def __init__(self, given):
        self.given = given


class InvalidLine(GapError):
    """What was given is no text."""

    def __init__(self, given):
        self.given = given


class InvalidClaim(GapError):
    """What was given is no claim."""

    def __init__(self, given):
        self.given = given


class NotNow(GapError):
    """What is asked is not told of such arguments."""


class TooMany(GapError):
    """What is asked for would have too many parts."""


class TooWide(GapError):
    """ROWs are too wide to be divided, or places lie too far off."""


class TooLong(GapError):
    """A ROW is too long to be parted into factors, or shown."""


class NotPlain(GapError):
    """A ROW is no plain HEAP of the told ones."""


class Alike(GapError):
    """A name that is to be new is there."""
