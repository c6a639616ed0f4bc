"""Point rows: marks at points of a grid, told by their differences."""

from samegaps.checks import within
from samegaps.pairs import multiple_of, sum_of
from samegaps.pointchecks import makes_points, need_points, need_two_points
from samegaps.pointpairs import letters_of, noughts, point_gaps, points_back, points_rooted, points_times, widest_of


def is_points(value):
    """Whether the value, whatever it is, is a POINT ROW."""
    return makes_points(value)


def spread_of_points(points):
    """The greatest difference of two POINTs at one letter, 0 for ()."""
    need_points(points)
    return widest_of(points)


def rooted_points(points):
    """The shifted POINT ROW that is rooted."""
    need_points(points)
    return points_rooted(points)


def mirrored_points(points):
    """The POINT ROW with all its letters' signs changed."""
    need_points(points)
    return points_back(points)


def product_of_points(points, other):
    """The product of both."""
    need_two_points(points, other)
    return within(points_times(points, other))


def differences_of_points(points):
    """The differences of the POINT ROW."""
    need_points(points)
    return within(point_gaps(points))


def same_points(points, other):
    """Whether both have the same differences."""
    need_two_points(points, other)
    return point_gaps(points) == point_gaps(other)


def point_apart(points, other):
    """The least POINT from noughts on at which the differences are unlike, None if there is none."""
    need_two_points(points, other)
    apart = sum_of(point_gaps(points), multiple_of(point_gaps(other), -1))
    return min([point for point, _ in apart if point >= noughts(letters_of(apart))], default=None)
