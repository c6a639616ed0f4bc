"""Differences of rows: whether two rows have the same ones, and which two rows make both."""

from samegaps.checks import need_row, need_some, need_whole, within
from samegaps.division import common_of, need_narrow, quotient_of
from samegaps.errors import NotNow
from samegaps.pairs import gaps_in, mirror, moved, multiple_of, product_of, root_of, sum_of


def differences(row):
    """The differences of the row."""
    need_row(row)
    return within(gaps_in(row))


def have_same(row, other):
    """Whether both rows have the same differences."""
    need_row(row)
    need_row(other)
    return gaps_in(row) == gaps_in(other)


def first_unlike(row, other):
    """The least place from 0 on at which the differences are unlike, None if there is none."""
    need_row(row)
    need_row(other)
    apart = sum_of(gaps_in(row), multiple_of(gaps_in(other), -1))
    return min([place for place, _ in apart if place >= 0], default=None)


def turned(row, other):
    """The product of the row and the other one mirrored."""
    need_row(row)
    need_row(other)
    return within(product_of(row, mirror(other)))


def need_two_with_marks(row, other):
    """The looks at two rows other than ()."""
    need_row(row)
    need_row(other)
    need_some(row)
    need_some(other)


def standing(row, other):
    """How two rows stand to one another: alike, mirrored, turned or unlike."""
    need_two_with_marks(row, other)
    if root_of(row) == root_of(other):
        return "alike"
    if root_of(row) == root_of(mirror(other)):
        return "mirrored"
    if gaps_in(row) == gaps_in(other):
        return "turned"
    return "unlike"


def pair_of(row, other):
    """(U, V, SHIFT, SIGN): U V is row, SIGN times U V', shifted by SHIFT, is other; or None."""
    need_two_with_marks(row, other)
    need_narrow((row, other))
    if gaps_in(row) != gaps_in(other):
        return None
    shared = common_of(row, other)
    part = quotient_of(row, shared)
    back = product_of(shared, mirror(part))
    sign = 1 if (back[0][1] > 0) == (other[0][1] > 0) else -1
    return (shared, part, other[0][0] - back[0][0], sign)


def grown(told, row, place, weight):
    """The differences of the row with so much more weight at the place, told those of the row."""
    need_row(told)
    need_row(row)
    need_whole(place)
    need_whole(weight)
    if told != gaps_in(row):
        raise NotNow()
    return within(gaps_grown(told, row, place, weight))


def gaps_grown(told, row, place, weight):
    """The same, unchecked ([B1])."""
    more = multiple_of(moved(row, -place), weight)
    both = sum_of(more, mirror(more))
    return sum_of(told, sum_of(both, row_at(0, weight * weight)))


def row_at(place, weight):
    """The row with the weight at the place, () for 0."""
    return ((place, weight),) if weight else ()
