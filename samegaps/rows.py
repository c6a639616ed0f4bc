"""Rows: sums, products, contents, roots, values."""

from math import gcd

from samegaps.checks import MOST_PAIRS, makes_row, need_row, need_whole, within
from samegaps.errors import InvalidHeap, InvalidPlaces, InvalidWhole, TooMany, TooWide
from samegaps.pairs import bare_of, content_of, mirror, moved, multiple_of, product_of, root_of, rooted, row_of
from samegaps.pairs import spread_of, step_of, sum_of
from samegaps.wholes import is_whole, power

MOST_MARKS = 1000
FARTHEST = 400


def is_row(value):
    """Whether the value, whatever it is, is a ROW."""
    return makes_row(value)


def is_heap(value):
    """Whether the value, whatever it is, is a ROW with all WEIGHTs above 0."""
    return makes_row(value) and all([weight > 0 for _, weight in value])


def is_plain(value):
    """Whether the value, whatever it is, is a ROW with all WEIGHTs 1."""
    return makes_row(value) and all([weight == 1 for _, weight in value])


def heap_of(places):
    """The HEAP with each of the places as often as it stands there."""
    if not isinstance(places, tuple) or len(places) > MOST_MARKS:
        raise InvalidPlaces(None)
    weights = {}
    for at, place in enumerate(places):
        if not is_whole(place):
            raise InvalidPlaces(at)
        weights[place] = weights.get(place, 0) + 1
    if len(weights) > MOST_PAIRS:
        raise TooMany()
    return row_of(weights)


def marks_in(heap):
    """The places of a HEAP, ascending, each as often as its WEIGHT tells."""
    if not is_heap(heap) or sum([weight for _, weight in heap]) > MOST_MARKS:
        raise InvalidHeap(heap)
    marks = []
    for place, weight in heap:
        marks.extend([place] * weight)
    return tuple(marks)


def count(row):
    """The sum of the WEIGHTs."""
    need_row(row)
    return sum([weight for _, weight in row])


def spread(row):
    """The last PLACE less the first one, 0 for ()."""
    need_row(row)
    return spread_of(row)


def step(row, other=()):
    """The step of both rows together."""
    need_row(row)
    need_row(other)
    return step_of((row, other))


def weight_at(row, place):
    """The WEIGHT at the place, 0 where there is none."""
    need_row(row)
    need_whole(place)
    return dict(row).get(place, 0)


def added(row, other):
    """The sum of both rows."""
    need_row(row)
    need_row(other)
    return within(sum_of(row, other))


def less(row, other):
    """The row less the other one."""
    need_row(row)
    need_row(other)
    return within(sum_of(row, multiple_of(other, -1)))


def multiple(row, number):
    """The row with all its WEIGHTs times the number."""
    need_row(row)
    need_whole(number)
    return multiple_of(row, number)


def shifted(row, shift):
    """The row with the shift added to all its PLACEs."""
    need_row(row)
    need_whole(shift)
    return moved(row, shift)


def mirrored(row):
    """The row with -p for each PLACE p."""
    need_row(row)
    return mirror(row)


def product(row, other):
    """The product of both rows."""
    need_row(row)
    need_row(other)
    return within(product_of(row, other))


def root(row):
    """The row that is rooted, positive and alike with this one."""
    need_row(row)
    return root_of(row)


def content(row):
    """The greatest common divisor of the WEIGHTs, 0 for ()."""
    need_row(row)
    return content_of(row)


def bare(row):
    """The root over the content, () for ()."""
    need_row(row)
    return bare_of(row)


def is_shifted(row, other):
    """Whether both are shifted ones of one another."""
    need_row(row)
    need_row(other)
    return rooted(row) == rooted(other)


def is_alike(row, other):
    """Whether both are alike: shifted ones, perhaps with all signs changed."""
    need_row(row)
    need_row(other)
    return root_of(row) == root_of(other)


def value_at(row, number):
    """The value of the row at the number, a pair (N, M) for N / M in least terms, M above 0."""
    need_row(row)
    if not is_whole(number) or number == 0 or abs(number) > 1000:
        raise InvalidWhole(number)
    if row == ():
        return (0, 1)
    if row[0][0] < -FARTHEST or row[-1][0] > FARTHEST:
        raise TooWide()
    # Begun at a place not above 0, all exponents are from 0 on.
    low = min(row[0][0], 0)
    top = sum([weight * power(number, place - low) for place, weight in row])
    return least_terms(top, power(number, -low))


def least_terms(top, under):
    """The pair of whole numbers without a common divisor for top / under, the second one above 0."""
    shared = gcd(top, under)
    if under < 0:
        shared = -shared
    return (top // shared, under // shared)
