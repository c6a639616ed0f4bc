"""Pictures: strips, stairs, wheels, grounds, and strips and wheels read back."""

from samegaps.errors import InvalidHeap, InvalidPicture, TooLong
from samegaps.pairs import spread_of
from samegaps.pointchecks import is_some_point_heap, need_points
from samegaps.pointpairs import letters_of, spreads_of
from samegaps.rings import MOST_PLACES, need_ring_and_lot
from samegaps.rows import is_heap, is_plain
from samegaps.wholes import figures

MOST_STRIP = 200
MOST_STAIRS = 9
MOST_GROUND = 60
FIGURES = "123456789"
NO_MARK = "."
MANY_MARKS = "#"
IN_LOT = "o"


def sign_of(many):
    """The sign for so many marks at one place."""
    if many == 0:
        return NO_MARK
    return FIGURES[many - 1] if many <= len(FIGURES) else MANY_MARKS


def strip(heap):
    """The text of a sign for each place from the first mark to the last one."""
    if not is_heap(heap):
        raise InvalidHeap(heap)
    if spread_of(heap) > MOST_STRIP:
        raise TooLong()
    if heap == ():
        return ""
    marks = dict(heap)
    return "".join([sign_of(marks.get(place, 0)) for place in range(heap[0][0], heap[-1][0] + 1)])


def stairs(heap):
    """The rows of lengths from each mark but the last one to all marks behind it."""
    if not is_plain(heap) or len(heap) > MOST_STAIRS:
        raise InvalidHeap(heap)
    marks = [place for place, _ in heap]
    rows = []
    for at, mark in enumerate(marks[:-1], 1):
        rows.append(" ".join([figures(far - mark) for far in marks[at:]]) + "\n")
    return "".join(rows)


def wheel(n, lot):
    """The text of a sign for each place of the ring."""
    need_ring_and_lot(n, lot)
    return "".join([IN_LOT if place in lot else NO_MARK for place in range(n)])


def ground(points):
    """The rows of signs of a point heap of two letters, the greatest second letter first."""
    need_points(points)
    if points == ():
        return ""
    if letters_of(points) != 2 or not is_some_point_heap(points):
        raise InvalidHeap(points)
    if max(spreads_of(points)) > MOST_GROUND:
        raise TooLong()
    marks = dict(points)
    firsts = [point[0] for point, _ in points]
    seconds = [point[1] for point, _ in points]
    rows = []
    for second in range(max(seconds), min(seconds) - 1, -1):
        signs = [sign_of(marks.get((first, second), 0)) for first in range(min(firsts), max(firsts) + 1)]
        rows.append("".join(signs) + "\n")
    return "".join(rows)


def need_text(text):
    """Refuses what is no text."""
    if not isinstance(text, str):
        raise InvalidPicture(None)


def may_stand_in_strip(sign, at):
    """Whether a strip may have the sign there; a strip neither begins nor ends with no mark."""
    if sign in FIGURES:
        return at <= MOST_STRIP
    return sign == NO_MARK and 0 < at < MOST_STRIP


def read_strip(text):
    """The rooted HEAP of a strip."""
    need_text(text)
    for at, sign in enumerate(text):
        if not may_stand_in_strip(sign, at):
            raise InvalidPicture(at)
    if text.endswith(NO_MARK):
        raise InvalidPicture(len(text))
    return tuple([(at, int(sign)) for at, sign in enumerate(text) if sign != NO_MARK])


def read_wheel(text):
    """The pair (N, LOT) of a wheel."""
    need_text(text)
    for at, sign in enumerate(text):
        if sign not in (IN_LOT, NO_MARK) or at >= MOST_PLACES:
            raise InvalidPicture(at)
    if text == "":
        raise InvalidPicture(0)
    return (len(text), tuple([at for at, sign in enumerate(text) if sign == IN_LOT]))
