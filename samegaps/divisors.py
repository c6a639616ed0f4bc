"""Quotients, greatest common divisors, and the way back from them."""

from samegaps.checks import makes_row, need_row, need_some
from samegaps.dense import row_from, weights_of
from samegaps.division import common_of, need_narrow, quotient_of, step_for
from samegaps.errors import InvalidRows, NotNow
from samegaps.mixtures import mixed_lists
from samegaps.pairs import moved
from samegaps.rows import value_at

MOST_ROWS = 8


def quotient(row, by):
    """The row which times by is row, None if there is none."""
    need_row(row)
    need_row(by)
    need_some(by)
    need_narrow((row, by))
    return quotient_of(row, by)


def divides(by, row):
    """Whether by divides row."""
    need_row(by)
    need_row(row)
    need_some(by)
    need_narrow((by, row))
    return quotient_of(row, by) is not None


def common_divisor(row, other):
    """The root of the greatest common divisor of both."""
    need_row(row)
    need_row(other)
    need_narrow((row, other))
    return common_of(row, other)


def common_divisor_of(rows):
    """The root of the greatest common divisor of all rows."""
    if not isinstance(rows, tuple) or len(rows) < 1 or len(rows) > MOST_ROWS:
        raise InvalidRows(None)
    for at, row in enumerate(rows):
        if not makes_row(row):
            raise InvalidRows(at)
    need_narrow(rows)
    total = ()
    for row in rows:
        total = common_of(total, row)
    return total


def need_two(row, other):
    """The looks at two rows that are to have a common divisor other than ()."""
    need_row(row)
    need_row(other)
    if row == () and other == ():
        raise NotNow()
    need_narrow((row, other))


def shared_out(row, other):
    """(U, V, W), U the root of the common divisor, U V the row, U W the other one."""
    shared = common_of(row, other)
    return (shared, quotient_of(row, shared), quotient_of(other, shared))


def cofactors(row, other):
    """(U, V, W), U the root of the common divisor, U V the row, U W the other one."""
    need_two(row, other)
    return shared_out(row, other)


def mixing(row, other):
    """(X, Y, N) with X row + Y other = N times the root of the common divisor, N above 0."""
    need_two(row, other)
    _, one, two = shared_out(row, other)
    if one == () or two == ():
        return mixed_with_nought(one, two)
    step = step_for((one, two))
    x, y, number = mixed_lists(weights_of(one, step), weights_of(two, step))
    return (row_from(x, step, -one[0][0]), row_from(y, step, -two[0][0]), number)


def mixed_with_nought(one, two):
    """The same for rows of which one is () and the other one a pair with the weight 1 or -1."""
    if one == ():
        return ((), turned_back(two), 1)
    return (turned_back(one), (), 1)


def turned_back(row):
    """The row which times this one, a pair with the weight 1 or -1, is ((0, 1),)."""
    return moved(row, -2 * row[0][0])


def is_nought_at(row, number):
    """Whether the value of the row at the number is 0."""
    return value_at(row, number)[0] == 0
