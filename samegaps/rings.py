"""Lots of places round a ring: their differences, turned, mirrored, multiplied."""

from math import gcd

from samegaps.checks import need_row, need_whole
from samegaps.errors import InvalidLot, InvalidWhole
from samegaps.wholes import is_whole

MOST_PLACES = 60


def is_place(value, n):
    """Whether the value, whatever it is, is a place of the ring."""
    return is_whole(value) and 0 <= value < n


def is_ring(value, most):
    """Whether the value, whatever it is, is a whole number from 1 to most."""
    return is_whole(value) and 1 <= value <= most


def need_ring(n, most):
    """Refuses what is no whole number from 1 to most."""
    if not is_ring(n, most):
        raise InvalidWhole(n)


def first_wrong_place(n, values):
    """The index of the first element of a tuple that keeps it from being a lot, None for none."""
    for at, value in enumerate(values):
        if not is_place(value, n) or (at > 0 and value <= values[at - 1]):
            return at
    return None


def is_lot(n, value):
    """Whether the value, whatever it is, is a lot of the ring."""
    return isinstance(value, tuple) and first_wrong_place(n, value) is None


def need_lot(n, lot):
    """Refuses what is no lot of the ring."""
    if not isinstance(lot, tuple):
        raise InvalidLot(None)
    at = first_wrong_place(n, lot)
    if at is not None:
        raise InvalidLot(at)


def need_ring_and_lot(n, lot):
    """The looks at a ring of up to 60 places and a lot of it."""
    need_ring(n, MOST_PLACES)
    need_lot(n, lot)


def gaps_round(n, lot):
    """At each d, how many pairs of the lot are d apart, round."""
    numbers = [0] * n
    for place in lot:
        for other in lot:
            numbers[(place - other) % n] += 1
    return tuple(numbers)


def turned_by(n, lot, turn):
    """The lot with each place so much further, round."""
    return tuple(sorted([(place + turn) % n for place in lot]))


def mirrored_lot(n, lot):
    """The lot mirrored."""
    return tuple(sorted([-place % n for place in lot]))


def least_of_class(n, lot):
    """The least lot of all that are alike with this one."""
    far = mirrored_lot(n, lot)
    return min([turned_by(n, way, turn) for way in (lot, far) for turn in range(n)])


def differences_round(n, lot):
    """The differences round of the lot."""
    need_ring_and_lot(n, lot)
    return gaps_round(n, lot)


def rest_round(n, lot):
    """All other places."""
    need_ring_and_lot(n, lot)
    return tuple([place for place in range(n) if place not in lot])


def turned_round(n, lot, turn):
    """The lot with each place so much further, round."""
    need_ring_and_lot(n, lot)
    need_whole(turn)
    return turned_by(n, lot, turn)


def mirrored_round(n, lot):
    """The lot mirrored."""
    need_ring_and_lot(n, lot)
    return mirrored_lot(n, lot)


def multiplied(n, lot, many):
    """The lot with each place times a number that has no divisor in common with n."""
    need_ring_and_lot(n, lot)
    if not is_whole(many) or many < 1 or many > n or gcd(many, n) != 1:
        raise InvalidWhole(many)
    return tuple(sorted([place * many % n for place in lot]))


def rolled(n, row):
    """At each place the sum of the WEIGHTs at all PLACEs that are it and a multiple of n."""
    need_ring(n, MOST_PLACES)
    need_row(row)
    numbers = [0] * n
    for place, weight in row:
        numbers[place % n] += weight
    return tuple(numbers)


def least_alike(n, lot):
    """The least lot of the class."""
    need_ring_and_lot(n, lot)
    return least_of_class(n, lot)


def how_alike(n, one, other):
    """The least (IS_MIRRORED, TURN) by which one becomes the other one, None if there is none."""
    need_ring_and_lot(n, one)
    need_lot(n, other)
    for is_mirrored, way in enumerate((one, mirrored_lot(n, one))):
        for turn in range(n):
            if turned_by(n, way, turn) == other:
                return (is_mirrored, turn)
    return None
