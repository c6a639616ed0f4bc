"""Rulers that grow: where a mark may be added, next marks, rulers by primes."""

from samegaps.errors import InvalidNumber, NotRuler, TooMany
from samegaps.residues import is_small_prime
from samegaps.rulers import MOST_MARKS, lengths_in, need_marks, pair_twice
from samegaps.wholes import is_whole

WIDEST_LOOK = 4000
LAST_PRIME = 59


def need_ruler(ruler):
    """Refuses what are no MARKS, then what is no ruler."""
    need_marks(ruler)
    if pair_twice(ruler) is not None:
        raise NotRuler(ruler)


def need_number(value):
    """Refuses what is no whole number."""
    if not is_whole(value):
        raise InvalidNumber(value)


def may_stand(place, ruler, found):
    """Whether the ruler, with the lengths found, is one with a mark more at the place."""
    lengths = [abs(place - mark) for mark in ruler]
    fresh = {length: True for length in lengths if length != 0 and length not in found}
    return len(fresh) == len(ruler)


def least_above(ruler):
    """The least place above the last mark that may be added, 0 for ()."""
    if ruler == ():
        return 0
    # Above the last mark only marks and a length more are out ([F4]).
    out = {mark + length: True for length in lengths_in(ruler) for mark in ruler}
    place = ruler[-1] + 1
    while place in out:
        place += 1
    return place


def can_be_added(ruler, place):
    """Whether the ruler is one with a mark more at the place."""
    need_ruler(ruler)
    need_number(place)
    return may_stand(place, ruler, lengths_in(ruler))


def places_for(ruler, low, high):
    """The places from low up to high that may be added, ascending."""
    need_ruler(ruler)
    need_number(low)
    if not is_whole(high) or high - low > WIDEST_LOOK:
        raise InvalidNumber(high)
    found = lengths_in(ruler)
    return tuple([place for place in range(low, high + 1) if may_stand(place, ruler, found)])


def next_mark(ruler):
    """The least place above the last mark that may be added, 0 for ()."""
    need_ruler(ruler)
    return least_above(ruler)


def with_next(ruler, many):
    """The ruler with so many next marks, one after the other."""
    need_ruler(ruler)
    if not is_whole(many) or many < 0:
        raise InvalidNumber(many)
    if len(ruler) + many > MOST_MARKS:
        raise TooMany()
    marks = ruler
    for _ in range(many):
        marks = (*marks, least_above(marks))
    return marks


def prime_ruler(prime):
    """The ruler of the marks 2 p k and the rest of k k by p, k from 0 to p - 1."""
    if not is_small_prime(prime) or prime > LAST_PRIME:
        raise InvalidNumber(prime)
    return tuple([2 * prime * k + k * k % prime for k in range(prime)])
