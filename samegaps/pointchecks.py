"""What may be passed of points: the looks that the modules of points share."""

from samegaps.checks import is_tuple_of_told_size
from samegaps.errors import InvalidPoints, InvalidWhole
from samegaps.pointpairs import letters_of
from samegaps.wholes import is_whole


def is_point(value):
    """Whether the value, whatever it is, is a POINT."""
    if not isinstance(value, tuple) or len(value) not in (2, 3):
        return False
    return all([is_whole(letter) for letter in value])


def is_weighted_point(value):
    """Whether the value, whatever it is, is a pair of a POINT and a WEIGHT."""
    if not isinstance(value, tuple) or len(value) != 2:
        return False
    return is_point(value[0]) and is_whole(value[1]) and value[1] != 0


def comes_behind(point, ahead):
    """Whether a POINT has as many letters as the one ahead and is above it."""
    return len(point) == len(ahead) and point > ahead


def first_wrong_point(values):
    """The index of the first element of a tuple that keeps it from being a POINT ROW, None for none."""
    for at, value in enumerate(values):
        if not is_weighted_point(value) or (at > 0 and not comes_behind(value[0], values[at - 1][0])):
            return at
    return None


def makes_points(value):
    """Whether the value, whatever it is, is a POINT ROW."""
    return is_tuple_of_told_size(value) and first_wrong_point(value) is None


def is_some_point_heap(points):
    """Whether a POINT ROW is a point heap other than ()."""
    return points != () and all([weight > 0 for _, weight in points])


def need_points(points):
    """Refuses what is no POINT ROW."""
    if not is_tuple_of_told_size(points):
        raise InvalidPoints(None)
    at = first_wrong_point(points)
    if at is not None:
        raise InvalidPoints(at)


def need_two_points(points, other):
    """Refuses what are no two POINT ROWs with as many letters; () goes with any."""
    need_points(points)
    need_points(other)
    if points and other and letters_of(points) != letters_of(other):
        raise InvalidPoints(None)


def need_step(step):
    """Refuses what is no whole number from 1 on."""
    if not is_whole(step) or step < 1:
        raise InvalidWhole(step)
