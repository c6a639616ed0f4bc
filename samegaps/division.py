"""Quotients and greatest common divisors of rows that are known to be rows."""

from math import gcd

from samegaps.dense import bare_list, common_list, content_list, quotient_list, row_from, weights_of
from samegaps.errors import TooWide
from samegaps.pairs import root_of, spread_of, step_of

WIDEST = 60


def are_too_wide(rows):
    """Whether a spread is above 60 times the step of all rows at once."""
    step = step_of(rows)
    return any([spread_of(row) > WIDEST * step for row in rows])


def need_narrow(rows):
    """Refuses rows that are too wide to be divided by one another."""
    if are_too_wide(rows):
        raise TooWide()


def step_for(rows):
    """The step of all rows at once, 1 where there is none."""
    return max(step_of(rows), 1)


def quotient_of(row, by):
    """The row which times by is row, None if there is none; by is not ()."""
    if row == ():
        return ()
    step = step_for((row, by))
    weights = quotient_list(weights_of(row, step), weights_of(by, step))
    if weights is None:
        return None
    return row_from(weights, step, row[0][0] - by[0][0])


def common_of(row, other):
    """The root of the greatest common divisor of both."""
    if row == () or other == ():
        return root_of(row + other)
    step = step_for((row, other))
    one, two = weights_of(row, step), weights_of(other, step)
    shared = common_list(bare_list(one), bare_list(two))
    content = gcd(content_list(one), content_list(two))
    return row_from([weight * content for weight in shared], step, 0)
