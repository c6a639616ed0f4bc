"""Quotients and greatest common divisors of narrow point rows that are known to be point rows."""

from math import gcd, isqrt

from samegaps.dense import read_back
from samegaps.division import common_of, quotient_of
from samegaps.pairs import content_of, multiple_of, over_number, row_of
from samegaps.pointpairs import letters_of, off_line, on_line, point_back, point_sum, points_moved
from samegaps.pointpairs import points_root, points_times, spreads_of, widest_of
from samegaps.wholes import power


def corner_of(points):
    """The POINT of the least letters, each by itself; points is not ()."""
    return tuple([min([point[at] for point, _ in points]) for at in range(letters_of(points))])


def at_corner(points):
    """The shifted point row with 0 as the least of each letter."""
    return points_moved(points, point_back(corner_of(points)))


def point_quotient(points, other):
    """The point row which times other is points, None if there is none; other is not ().

    Letters from 0 on, by a step above twice the spread, are told by their place on the line, so the
    line tells the only row that may be it; but lines may divide where points don't.
    """
    if points == ():
        return ()
    if any([less > more for more, less in zip(spreads_of(points), spreads_of(other))]):
        return None
    step = 2 * widest_of(points) + 1
    shares = quotient_of(on_line(at_corner(points), step), on_line(at_corner(other), step))
    if shares is None:
        return None
    shift = point_sum(corner_of(points), point_back(corner_of(other)))
    quotient = points_moved(off_line(shares, step, letters_of(points)), shift)
    return quotient if points_times(quotient, other) == points else None


def common_of_points(points, other):
    """The root of the greatest common divisor of both."""
    if points == () or other == ():
        return points_root(points + other)
    return points_root(shared_at_corner(at_corner(points), at_corner(other)))


def one_letter_less(points, number):
    """The values of the point row's weights at a number for the last letter."""
    weights = {}
    for point, weight in points:
        weights[point[:-1]] = weights.get(point[:-1], 0) + weight * power(number, point[-1])
    return row_of(weights)


def one_letter_more(points, number):
    """The point row that has these values, without weights above half the number."""
    told = []
    for point, value in points:
        for letter, weight in enumerate(read_back(value, number)):
            told.append(((*point, letter), weight))
    return tuple([pair for pair in told if pair[1]])


def of_one_letter(one, other):
    """The greatest common divisor of point rows of one letter: they are rows."""
    rows = [tuple([(point[0], weight) for point, weight in points]) for points in (one, other)]
    return tuple([((place,), weight) for place, weight in common_of(rows[0], rows[1])])


def number_beyond(points):
    """A number of which half is far above all weights of all divisors.

    On a line of as many places as the letters have values together divisors have weights up to
    2 to the line's spread times the sum of the row's weights ([C5]).
    """
    places = 1
    for spread in spreads_of(points):
        places = places * (spread + 1)
    return (sum([abs(weight) for _, weight in points]) << (places + 40)) + 1


def is_shared(part, points, other):
    """Whether a point row divides both."""
    return point_quotient(points, part) is not None and point_quotient(other, part) is not None


def shared_at_corner(one, other):
    """The greatest common divisor of two point rows, not (), with 0 as the least of each letter.

    It is read off that of their values at a number for the last letter, which have a letter less.
    If what is read so, made bare, divides both, it is the greatest bare one: the value of a further
    factor divides the content of what was read (without powers of the number, as the values at 0
    have no such divisor), so it is a whole number, up to half the number; and the factor, of which
    all weights are below that, is told by its value: it is a whole number, too. For all numbers but
    finitely many the values have, but for this divisor, only what divides one fixed number in
    common; so the search ends.
    """
    if letters_of(one) == 1:
        return of_one_letter(one, other)
    content = gcd(content_of(one), content_of(other))
    number = max(number_beyond(one), number_beyond(other))
    while True:
        value = shared_at_corner(one_letter_less(one, number), one_letter_less(other, number))
        told = one_letter_more(value, number)
        bare = over_number(told, content_of(told))
        if is_shared(bare, one, other):
            return multiple_of(bare, content)
        number = number * isqrt(number)
