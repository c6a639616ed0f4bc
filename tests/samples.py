"""What several test files share: odd values, wrong rows, reckoning by other ways."""

import random


class Odd:
    """A value of a class that the program knows nothing of."""


class Yes:
    """A value that says that it is equal to each other one."""

    def __eq__(self, other):
        return True


def nested(depth):
    """A tuple nested so deep."""
    value = ()
    for _ in range(depth):
        value = (value,)
    return value


GREAT = 10 ** 399 + 7
NOT_TUPLES = [None, True, False, 0, -3, GREAT, "", "0 1", b"ab", [], [(0, 1)], {}, {0: 1}, set(), {(0, 1)},
              frozenset(), range(3), Odd(), Odd, Yes(), len, 2j, Ellipsis]
NOT_WHOLE = [None, True, False, "", "1", b"1", (), (1,), [1], {}, set(), Odd(), Yes(), int, 2j, nested(20)]
# Pairs of what is no ROW and the index that is told.
WRONG_ROWS = [(value, None) for value in NOT_TUPLES] + [
    (tuple((p, 1) for p in range(401)), None),
    (tuple((0, 0) for p in range(401)), None),
    (((0, True),), 0), (((True, 1),), 0), (((0, 0),), 0), (((0, 1, 2),), 0), (((0,),), 0), (([0, 1],), 0),
    ((5,), 0), ((None,), 0), (("01",), 0), ((b"01",), 0), (((),), 0), (((0, None),), 0), (((None, 1),), 0),
    ((("0", 1),), 0), (((0, "1"),), 0), (((0, 1), (0, 2)), 1), (((1, 1), (0, 1)), 1), (((0, 1), (2, 0)), 1),
    (((0, 1), (2, False)), 1), (((0, 1), (1, 1), (1, 1), None), 2), (((0, 1), (5, 1), (3, 1), (3, 0)), 2),
    (nested(20), 0), (((0, 1), nested(19)), 1), (((0, (1,)),), 0), (((0, 1), Odd()), 1),
    (tuple((p, 1) for p in range(399)) + ((398, 1),), 399),
]
RULER = ((0, 1), (1, 1), (4, 1))
MIXED = ((-1, 2), (3, -4))
FOUR_HUNDRED = tuple((3 * p - 7, p + 1) for p in range(400))


def wanted(test, error, call, **told):
    """The call raises just this error, with these attributes, of the same values and kinds."""
    try:
        call()
    except Exception as got:
        test.assertIs(type(got), error)
        test.assertEqual(set(vars(got)), set(told))
        for name, value in told.items():
            test.assertIs(type(getattr(got, name)), type(value))
            if name == "given":
                test.assertIs(getattr(got, name), value)
            else:
                test.assertEqual(getattr(got, name), value)
        return
    test.fail("nothing was raised")


def refuses_wrong_rows(test, error, call):
    """The call, of one argument, refuses all that is no ROW with the told index."""
    for value, index in WRONG_ROWS:
        wanted(test, error, lambda value=value: call(value), index=index)


def refuses_not_whole(test, error, call):
    """The call, of one argument, refuses all that is no whole number."""
    for value in NOT_WHOLE:
        wanted(test, error, lambda value=value: call(value), given=value)


def times(one, other):
    """The product, by a dict."""
    told = {}
    for place, weight in one:
        for far, more in other:
            told[place + far] = told.get(place + far, 0) + weight * more
    return tuple(sorted((place, weight) for place, weight in told.items() if weight))


def plus(one, other):
    """The sum, by a dict."""
    told = dict(one)
    for place, weight in other:
        told[place] = told.get(place, 0) + weight
    return tuple(sorted((place, weight) for place, weight in told.items() if weight))


def back(row):
    """The row mirrored."""
    return tuple(sorted((-place, weight) for place, weight in row))


def all_times(rows):
    """The product of all rows."""
    total = ((0, 1),)
    for row in rows:
        total = times(total, row)
    return total


def by_number(row, number):
    """The multiple."""
    return tuple((place, weight * number) for place, weight in row if number)


def along(row, shift, step=1):
    """The row with each place times the step, then shifted."""
    return tuple((place * step + shift, weight) for place, weight in row)


def some_row(rng, pairs, spread, height):
    """A row of up to so many pairs within the spread."""
    places = sorted(rng.sample(range(spread + 1), min(pairs, spread + 1)))
    return tuple((place, rng.choice((1, -1)) * rng.randint(1, height)) for place in places)


def dice(seed):
    """A source of numbers, the same in each run."""
    return random.Random(seed)


def square_roots(primes):
    """The row of which the zeros are all sums of square roots of the primes, of either sign.

    It is an atom, though it is parted into ones of spread 1 and 2 modulo each prime.
    """
    row = ((1, 1),)
    for prime in primes:
        # The row at x + s is EVEN + s ODD, s s being the prime; times the one at x - s.
        even, odd = (), ()
        for place, weight in row:
            share = 1
            for k in range(place + 1):
                told = ((place - k, weight * share * prime ** (k // 2)),)
                even, odd = (plus(even, told), odd) if k % 2 == 0 else (even, plus(odd, told))
                share = share * (place - k) // (k + 1)
        row = plus(times(even, even), by_number(times(odd, odd), -prime))
    return row


def moved_letter(row, number):
    """The row with x + number for x."""
    total, power, at = (), ((0, 1),), 0
    for place, weight in row:
        while at < place:
            power, at = times(power, ((0, number), (1, 1)) if number else ((1, 1),)), at + 1
        total = plus(total, by_number(power, weight))
    return total


def small_primes(most):
    """The primes up to most."""
    return [n for n in range(2, most + 1) if all(n % k for k in range(2, n) if k * k <= n)]


# Pairs of what is no POINT ROW and the index that is told.
WRONG_POINTS = [(value, None) for value in NOT_TUPLES] + [
    (tuple(((p, 0), 1) for p in range(401)), None), (tuple(((0, 0), 0) for p in range(401)), None),
    (((0, 1),), 0), ((((0,), 1),), 0), ((((0, 0, 0, 0), 1),), 0), (((0, 0), 1), 0), ((((0, 0), 0),), 0),
    ((((0, 0), True),), 0), ((((0, False), 1),), 0), ((((True, 0, 0), 1),), 0), ((((0, 0), None),), 0),
    ((((0, 0), (1,)),), 0), ((([0, 0], 1),), 0), (([(0, 0), 1],), 0), ((("00", 1),), 0), (((b"00", 1),), 0),
    ((((0, "0"), 1),), 0), ((((0, (0,)), 1),), 0), ((((0, 0), 1, 1),), 0), ((((0, 0),),), 0), (((),), 0),
    (((None, 1),), 0), ((Odd(),), 0), ((5,), 0), (((((0, 0), 1), 1),), 0), ((((), 1),), 0), (nested(20), 0),
    ((((0, 0), 1), ((0, 0), 1)), 1), ((((0, 1), 1), ((0, 0), 1)), 1), ((((1, 0), 1), ((0, 9), 1)), 1),
    ((((0, 0), 1), ((0, 0, 1), 1)), 1), ((((0, 0, 0), 1), ((1, 0), 1)), 1), ((((0, 0), 1), ((0, 1), 0)), 1),
    ((((0, 0), 1), ((0, 1), 1), ((0, 1), 2), None), 2), ((((0, 0), 1), ((0, 5), 1), ((0, 3), 0)), 2),
    ((((0, 0), 1), nested(19)), 1), ((((0, 0), 1), Odd()), 1), ((((0, 0), 1), (1, 1)), 1),
    (tuple(((0, p), 1) for p in range(399)) + (((0, 398), 1),), 399),
]
CORNER = (((0, 0), 1), ((0, 1), 1), ((1, 0), 1))
HOOK = (((0, 0), 1), ((2, 0), 1), ((3, 1), 1))


def refuses_wrong_points(test, error, call):
    """The call, of one argument, refuses all that is no POINT ROW with the told index."""
    for value, index in WRONG_POINTS:
        wanted(test, error, lambda value=value: call(value), index=index)


def points_from(told):
    """The point row of a dict, what is 0 left out."""
    return tuple(sorted((point, weight) for point, weight in told.items() if weight))


def times_points(one, other):
    """The product, by a dict."""
    told = {}
    for point, weight in one:
        for far, more in other:
            at = tuple(a + b for a, b in zip(point, far))
            told[at] = told.get(at, 0) + weight * more
    return points_from(told)


def back_points(points):
    """The point row mirrored."""
    return points_from({tuple(-a for a in point): weight for point, weight in points})


def along_points(points, shift):
    """The point row with the shift added to each POINT."""
    return points_from({tuple(a + b for a, b in zip(point, shift)): weight for point, weight in points})


def some_points(rng, letters, pairs, spread, height):
    """A point row of up to so many pairs within the spread."""
    told = {}
    for _ in range(pairs):
        point = tuple(rng.randint(0, spread) for _ in range(letters))
        told[point] = rng.choice((1, -1)) * rng.randint(1, height)
    return points_from(told)


# Pairs of what is no lot of a ring of eight places and the index that is told.
WRONG_LOTS = [(value, None) for value in NOT_TUPLES] + [
    ((None,), 0), ((True,), 0), ((False,), 0), ((-1,), 0), ((8,), 0), ((GREAT,), 0), (("0",), 0), ((b"0",), 0),
    (((0,),), 0), (([0],), 0), ((Odd(),), 0), ((2j,), 0), (nested(20), 0), ((0, 0), 1), ((1, 0), 1), ((0, True), 1),
    ((0, 8), 1), ((2, 5, 5, None), 2), ((2, 5, 4, -1), 2), ((0, 1, 2, 3, 4, 5, 6, 7, 8), 8),
    ((0, 1, 2, 3, 4, 5, 6, 7, 7), 8), ((7, 8), 1), ((0, nested(19)), 1), ((-GREAT, 0), 0),
]
# What is no number of places from 1 to 60.
NO_RINGS = NOT_WHOLE + [0, -1, 61, GREAT, -GREAT]


def refuses_wrong_lots(test, error, call):
    """The call, of one argument, refuses all that is no lot of a ring of eight places with the told index."""
    for value, index in WRONG_LOTS:
        wanted(test, error, lambda value=value: call(value), index=index)


def apart_round(n, lot):
    """The differences round, each pair of places by itself."""
    told = [(a - b) % n for a in lot for b in lot]
    return tuple(told.count(d) for d in range(n))


# Pairs of what are no MARKS and the index that is told.
WRONG_MARKS = [(value, None) for value in NOT_TUPLES] + [
    (tuple(range(61)), None), ((0,) * 61, None), ((None,) * 61, None), ((None,), 0), ((True,), 0), (("0",), 0),
    ((b"0",), 0), (((0,),), 0), (([0],), 0), ((Odd(),), 0), ((2j,), 0), (nested(20), 0), ((0, 0), 1), ((1, 0), 1),
    ((0, True), 1), ((0, None), 1), ((0, nested(19)), 1), ((-5, -5, None), 1), ((2, 5, 4, None), 2),
    ((-GREAT, GREAT, GREAT), 2), (tuple(range(59)) + (58,), 59),
]


def refuses_wrong_marks(test, error, call):
    """The call, of one argument, refuses all that are no MARKS with the told index."""
    for value, index in WRONG_MARKS:
        wanted(test, error, lambda value=value: call(value), index=index)


def prime_marks(prime):
    """The ruler of [F7]."""
    return tuple(2 * prime * k + k * k % prime for k in range(prime))


def are_ruler(marks):
    """Whether the marks are unlike and no two pairs of them have one length, by counting."""
    told = [abs(a - b) for at, a in enumerate(marks) for b in marks[:at]]
    return 0 not in told and len(set(told)) == len(told)
