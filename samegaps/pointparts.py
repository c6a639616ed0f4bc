"""Common divisors and quotients of point rows, looked for among point rows."""

from samegaps.checks import need_some
from samegaps.errors import NotNow, TooWide
from samegaps.pointchecks import is_some_point_heap, need_two_points
from samegaps.pointdivision import common_of_points, point_quotient
from samegaps.pointpairs import letters_of, point_gaps, widest_of

# The greatest spread of point rows that are divided, by their letters.
WIDEST = {2: 12, 3: 4}


def are_narrow_points(points):
    """Whether the point row is narrow enough to be divided."""
    return points == () or widest_of(points) <= WIDEST[letters_of(points)]


def need_narrow_points(points, other):
    """Refuses point rows that are too wide to be divided."""
    if not are_narrow_points(points) or not are_narrow_points(other):
        raise TooWide()


def common_points(points, other):
    """The root of the greatest common divisor of both."""
    need_two_points(points, other)
    need_narrow_points(points, other)
    return common_of_points(points, other)


def divided_points(points, other):
    """The POINT ROW which times other is points, None if there is none."""
    need_two_points(points, other)
    need_some(other)
    need_narrow_points(points, other)
    return point_quotient(points, other)


def shared_points(points, other):
    """(U, V): U V is points, a shifted one of U and V mirrored is other; None for unlike differences."""
    need_two_points(points, other)
    if not is_some_point_heap(points) or not is_some_point_heap(other):
        raise NotNow()
    need_narrow_points(points, other)
    if point_gaps(points) != point_gaps(other):
        return None
    shared = common_of_points(points, other)
    return (shared, point_quotient(points, shared))
