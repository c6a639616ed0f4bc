"""Lines of point rows, and the way back: from heaps on a line to all point heaps with the same differences."""

from samegaps.checks import need_row
from samegaps.errors import InvalidWhole, NotNow, TooMany
from samegaps.pointchecks import is_some_point_heap, need_points, need_step
from samegaps.pointpairs import letters_of, off_line, on_line, widest_of
from samegaps.trees import MOST_MARKS, heaps_of, lengths_of
from samegaps.wholes import is_whole


def line_of(points, step):
    """The line of the POINT ROW for the step."""
    need_points(points)
    need_step(step)
    return on_line(points, step)


def back_of(row, step, letters):
    """The POINT ROW of which the rooted ROW is the line, its letters but the first one near 0."""
    need_row(row)
    need_step(step)
    if not is_whole(letters) or letters not in (2, 3):
        raise InvalidWhole(letters)
    if row and row[0][0] != 0:
        raise NotNow()
    return off_line(row, step, letters)


def all_points(points):
    """All rooted point heaps with the differences of the point heap, ascending."""
    need_points(points)
    if not is_some_point_heap(points):
        raise NotNow()
    if sum([weight for _, weight in points]) > MOST_MARKS:
        raise TooMany()
    # Above three times the spread no two of the sums that matter meet on the line ([E2]).
    step = 3 * widest_of(points) + 1
    heaps = heaps_of(lengths_of(on_line(points, step)))
    return tuple(sorted([off_line(heap, step, letters_of(points)) for heap in heaps]))
