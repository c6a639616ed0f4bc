"""What may be passed: the looks that many modules share."""

from samegaps.errors import InvalidRow, InvalidWhole, NotCore, NotNow, TooLong, TooMany
from samegaps.pairs import content_of, spread_of
from samegaps.wholes import is_whole

MOST_PAIRS = 400
LONGEST = 60


def is_weighted(value):
    """True for a pair of whole numbers of which the second one is not 0."""
    if not isinstance(value, tuple) or len(value) != 2:
        return False
    return is_whole(value[0]) and is_whole(value[1]) and value[1] != 0


def first_wrong(values):
    """The index of the first element of a tuple that keeps it from being a ROW, None for none."""
    for at, value in enumerate(values):
        if not is_weighted(value) or (at > 0 and value[0] <= values[at - 1][0]):
            return at
    return None


def is_tuple_of_told_size(value):
    """True for a tuple that is short enough for a ROW, or a POINT ROW."""
    return isinstance(value, tuple) and len(value) <= MOST_PAIRS


def makes_row(value):
    """True for a ROW, whatever the value is."""
    return is_tuple_of_told_size(value) and first_wrong(value) is None


def need_row(value):
    """Refuses what is no ROW."""
    if not is_tuple_of_told_size(value):
        raise InvalidRow(None)
    at = first_wrong(value)
    if at is not None:
        raise InvalidRow(at)


def need_whole(value):
    """Refuses what is no whole number."""
    if not is_whole(value):
        raise InvalidWhole(value)


def makes_core(value):
    """True for a core, whatever the value is."""
    if not makes_row(value) or len(value) < 2:
        return False
    return value[0][0] == 0 and value[-1][1] > 0 and content_of(value) == 1


def need_core(value):
    """Refuses what is no ROW, then what is no core."""
    need_row(value)
    if not makes_core(value):
        raise NotCore(value)


def need_some(row):
    """Refuses () where nothing is told of it."""
    if row == ():
        raise NotNow()


def need_short(row):
    """Refuses a ROW that is too long to be parted into factors."""
    if spread_of(row) > LONGEST:
        raise TooLong()


def within(row):
    """The row itself, refused if it has more pairs than are told back."""
    if len(row) > MOST_PAIRS:
        raise TooMany()
    return row
