"""Lots told back: all lots round a ring with told differences, class by class; flat lots."""

from samegaps.errors import InvalidNumbers
from samegaps.rings import gaps_round, least_of_class, need_lot, need_ring, turned_by
from samegaps.wholes import is_whole

MOST_TOLD = 16


def first_wrong_number(values):
    """The index of the first element of a tuple that is no whole number from 0 on, None for none."""
    for at, value in enumerate(values):
        if not is_whole(value) or value < 0:
            return at
    return None


def need_numbers(n, numbers):
    """Refuses what are no n numbers."""
    if not isinstance(numbers, tuple) or len(numbers) != n:
        raise InvalidNumbers(None)
    at = first_wrong_number(numbers)
    if at is not None:
        raise InvalidNumbers(at)


def left_with(n, lot, left, place):
    """What is left of the numbers when the place is let in, None if some difference comes too often."""
    rest = list(left)
    rest[0] -= 1
    for other in lot:
        rest[(place - other) % n] -= 1
        rest[(other - place) % n] -= 1
    return None if min(rest) < 0 else rest


def lots_with_nought(n, numbers):
    """All lots with the place 0 that have these differences round."""
    stands = [((), list(numbers))]
    for place in range(n):
        ways = []
        for lot, left in stands:
            rest = left_with(n, lot, left, place)
            if rest is not None:
                ways.append(((*lot, place), rest))
            # The numbers at 0 that are left are the places that are still to be let in.
            if place > 0 and left[0] < n - place:
                ways.append((lot, left))
        stands = ways
    return [lot for lot, left in stands if not any(left)]


def all_told(n, numbers):
    """All lots with these differences round, ascending."""
    if not any(numbers):
        return ((),)
    found = {}
    for lot in lots_with_nought(n, numbers):
        for turn in range(n):
            found[turned_by(n, lot, turn)] = True
    return tuple(sorted(found))


def all_classes(n, numbers):
    """The least lots of the classes of all lots with these differences round, ascending."""
    if not any(numbers):
        return ((),)
    return tuple(sorted(set([least_of_class(n, lot) for lot in lots_with_nought(n, numbers)])))


def lots_told(n, numbers):
    """All lots with these differences round, ascending."""
    need_ring(n, MOST_TOLD)
    need_numbers(n, numbers)
    return all_told(n, numbers)


def classes_told(n, numbers):
    """The least lots of their classes, ascending."""
    need_ring(n, MOST_TOLD)
    need_numbers(n, numbers)
    return all_classes(n, numbers)


def mates(n, lot):
    """The least lots of all classes with the lot's differences round, but its own."""
    need_ring(n, MOST_TOLD)
    need_lot(n, lot)
    own = least_of_class(n, lot)
    return tuple([other for other in all_classes(n, gaps_round(n, lot)) if other != own])


def flat_number(n, lot):
    """How often all differences but 0 come, if alike often, of a lot of two places or more; otherwise None."""
    need_ring(n, MOST_TOLD)
    need_lot(n, lot)
    if len(lot) < 2:
        return None
    numbers = gaps_round(n, lot)[1:]
    return numbers[0] if min(numbers) == max(numbers) else None
