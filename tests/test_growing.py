"""[F4], [F7] and growing.py."""

import unittest

from samegaps.errors import InvalidMarks, InvalidNumber, NotRuler, TooMany
from samegaps.growing import can_be_added, next_mark, places_for, prime_ruler, with_next
from samegaps.rulers import is_ruler
from samples import GREAT, NOT_WHOLE, are_ruler, dice, prime_marks, refuses_wrong_marks, small_primes, wanted

# The first of the rulers of next marks: Mian and Chowla's, less 1.
NEXT = (0, 1, 3, 7, 12, 20, 30, 44, 65, 80, 96, 122, 147, 181, 203, 251, 289, 360, 400, 474)
NO_RULERS = [(0, 1, 2), (-3, 0, 3), (0, 1, 3, 4), tuple(range(60)), (0, 1, 5, 8, 10, 12), (0, GREAT, 2 * GREAT),
             tuple(2 ** k for k in range(59)) + (3 * 2 ** 57,), (0, 1, 5, 6, 20)]


def some_rulers():
    """Rulers of any kind: none, one mark, of many figures, dense ones, fifty-nine and sixty marks."""
    rng = dice(131)
    told = [(), (0,), (-7,), (GREAT,), (3, 9), (-GREAT, GREAT), (0, 1, 4, 6), (-12, -3, 4), (0, 1, 4, 9, 11), NEXT,
            prime_marks(13), prime_marks(59), prime_marks(59) + (20000,), tuple(2 ** k for k in range(60)),
            tuple(-(3 ** k) for k in range(60))[::-1]]
    for size in (12, 30, 200, GREAT):
        for _ in range(6):
            marks = ()
            for place in rng.sample(range(-min(size, 300), min(size, 300)), 24) if size != GREAT else ():
                marks = tuple(sorted((*marks, place))) if are_ruler((*marks, place)) else marks
            told.append(marks)
    for _ in range(8):
        marks = tuple(sorted({rng.randint(-GREAT, GREAT) for _ in range(rng.randint(2, 9))}))
        told.append(marks)
    return [marks for marks in told if are_ruler(marks)]


def let(marks, place):
    """Whether the marks with the place put in are a ruler with one mark more, by counting."""
    return are_ruler((*marks, place))


def out_of(marks):
    """The places that are out by [F4]: marks, a mark and a length more or less, middles of two marks."""
    lengths = {abs(a - b) for a in marks for b in marks if a != b}
    middles = {(a + b) // 2 for a in marks for b in marks if a != b and (a + b) % 2 == 0}
    return set(marks) | {mark + sign * length for mark in marks for length in lengths for sign in (1, -1)} | middles


class Examples(unittest.TestCase):
    def test_of_the_document(self):
        self.assertEqual([can_be_added((0, 1, 4), 6), can_be_added((0, 1, 4), 7), places_for((0, 2), -3, 6),
                          next_mark((0, 1)), with_next((), 5), prime_ruler(5)],
                         [True, False, (-3, -1, 3, 5, 6), 3, (0, 1, 3, 7, 12), (0, 11, 24, 34, 41)])

    def test_by_hand(self):
        # To 0, 1, 3: 4 is 1 from 3, 5 is 2 from 3, 6 is 3 from 3, 7 lies 4, 6 and 7 off.
        self.assertEqual([can_be_added((0, 1, 3), place) for place in (4, 5, 6, 7)], [False, False, False, True])
        self.assertEqual(next_mark((0, 1, 3)), 7)


class Added(unittest.TestCase):
    def test_small_ones(self):
        for marks in some_rulers():
            if marks and marks[-1] - marks[0] > 800 or len(marks) > 20:
                continue
            low, high = (marks[0] - 30, marks[-1] + 30) if marks else (-30, 30)
            told = [place for place in range(low, high + 1) if let(marks, place)]
            self.assertEqual(places_for(marks, low, high), tuple(told))
            for place in range(low, high + 1):
                self.assertIs(can_be_added(marks, place), place in told)

    def test_places_of_every_kind(self):
        rng = dice(132)
        kinds = set()
        for marks in some_rulers():
            lengths = sorted({b - a for at, a in enumerate(marks) for b in marks[at + 1:]})[:40]
            places = set(marks[:5]) | {(a + b) // 2 for a in marks[:4] for b in marks[-3:]}
            places |= {mark + sign * length for mark in marks[:3] for length in lengths for sign in (1, -1)}
            places |= {rng.randint(-GREAT, GREAT), -GREAT, 0} | {marks[0] - 1, marks[-1] + 1} if marks else {0, 5, -GREAT}
            for place in places:
                self.assertIs(can_be_added(marks, place), let(marks, place))
                self.assertEqual(places_for(marks, place, place), (place,) if let(marks, place) else ())
                kinds.add((place in marks, let(marks, place), marks != () and place < marks[0]))
        self.assertEqual(kinds, {(True, False, False), (False, True, True), (False, True, False), (False, False, True),
                                 (False, False, False)})
        self.assertIs(can_be_added(ruler=(0, 1, 4), place=6), True)

    def test_what_is_out(self):
        for marks in some_rulers():
            if len(marks) > 13:
                continue
            out, many = out_of(marks), len(marks)
            self.assertTrue(len(out) <= many + many * many * (many - 1) + many * (many - 1) // 2)
            for place in sorted(out)[::7]:
                self.assertIs(can_be_added(marks, place), False)
            for place in sorted(out)[::9]:
                for beside in (place - 1, place + 1):
                    self.assertIs(can_be_added(marks, beside), beside not in out)

    def test_none_and_one(self):
        for place in (0, 3, -GREAT, GREAT, 10 ** 400):
            self.assertIs(can_be_added((), place), True)
            self.assertIs(can_be_added((place,), place), False)
            self.assertIs(can_be_added((place,), place + 1), True)
            self.assertIs(can_be_added((place,), place - 1), True)
        self.assertEqual(places_for((), -2, 2), (-2, -1, 0, 1, 2))
        self.assertEqual(places_for((0,), -2, 2), (-2, -1, 1, 2))
        # In the middle of two marks, a length more, a length less.
        self.assertEqual([can_be_added((0, 10), place) for place in (5, 20, -10, 4, 21, -9)],
                         [False, False, False, True, True, True])

    def test_sixty_marks(self):
        for marks in (prime_marks(59) + (20000,), tuple(2 ** k for k in range(60))):
            self.assertEqual(len(marks), 60)
            low = marks[-1] - 40
            told = tuple(place for place in range(low, low + 80) if let(marks, place))
            self.assertEqual(places_for(marks, low, low + 79), told)
            self.assertIs(can_be_added(marks, marks[30]), False)
            self.assertIs(can_be_added(marks, GREAT), True)
            place = next_mark(marks)
            self.assertIs(let(marks, place), True)
            self.assertTrue(marks[-1] < place <= marks[-1] + 60 * (60 * 59 // 2) + 1)
            self.assertEqual(with_next(marks, 0), marks)
            wanted(self, TooMany, lambda marks=marks: with_next(marks, 1))


class Places(unittest.TestCase):
    def test_bounds(self):
        self.assertEqual(len(places_for((0,), 1, 4001)), 4001)
        self.assertEqual(places_for((0, 1), -2000, 2000), tuple(p for p in range(-2000, 2001) if let((0, 1), p)))
        self.assertEqual(places_for(ruler=(), low=GREAT, high=GREAT + 4000), tuple(range(GREAT, GREAT + 4001)))
        for high in (2, -1, -4000, -4001, -GREAT):
            self.assertEqual(places_for((0, 1), 3, high), ())
        self.assertEqual(places_for((), GREAT, -GREAT), ())
        for low, high in ((0, 4001), (1, 4002), (-GREAT, GREAT), (0, GREAT), (-GREAT, 4001 - GREAT)):
            wanted(self, InvalidNumber, lambda low=low, high=high: places_for((0, 1), low, high), given=high)
            places_for((0, 1), low, low + 4000)


class Next(unittest.TestCase):
    def test_beside_a_trial(self):
        for marks in some_rulers():
            if not marks:
                continue
            place, many = marks[-1] + 1, len(marks)
            while not let(marks, place):
                place += 1
            self.assertEqual(next_mark(marks), place)
            self.assertTrue(place <= marks[-1] + many * (many * (many - 1) // 2) + 1)
        self.assertEqual([next_mark(()), next_mark((5,)), next_mark((-GREAT,)), next_mark(ruler=(0, 1, 3))],
                         [0, 6, 1 - GREAT, 7])
        # 7 to 12 are one of 1 to 6 from 6, and so measured twice; 13 lies 13, 12, 9 and 7 off.
        self.assertEqual([next_mark((0, 2)), next_mark((0, 1, 4, 6)), next_mark((0, GREAT))], [3, 13, GREAT + 1])

    def test_one_after_the_other(self):
        self.assertEqual(with_next((), 20), NEXT)
        for many in range(21):
            self.assertEqual(with_next((), many), NEXT[:many])
            self.assertEqual(with_next(NEXT[:many], 20 - many), NEXT)
        for marks in some_rulers():
            told = marks
            for many in range(4):
                if len(marks) + many > 60:
                    wanted(self, TooMany, lambda marks=marks, many=many: with_next(marks, many))
                    break
                self.assertEqual(with_next(marks, many), told)
                self.assertEqual(with_next(ruler=marks, many=many)[:len(marks)], marks)
                told = (*told, next_mark(told))

    def test_up_to_sixty(self):
        told = with_next((), 60)
        self.assertEqual(told[:20], NEXT)
        self.assertEqual(len(told), 60)
        self.assertIs(is_ruler(told), True)
        for at in range(1, 60):
            self.assertEqual(next_mark(told[:at]), told[at])
        self.assertEqual(with_next(told[:59], 1), told)
        self.assertEqual(with_next(prime_marks(59), 1)[:59], prime_marks(59))
        for marks, many in (((), 61), (told, 1), (told[:59], 2), ((0,), 60), (told, GREAT), ((), GREAT)):
            wanted(self, TooMany, lambda marks=marks, many=many: with_next(marks, many))


class ByPrimes(unittest.TestCase):
    def test_each_prime(self):
        for prime in small_primes(59):
            told = prime_ruler(prime)
            self.assertEqual(told, prime_marks(prime))
            self.assertEqual(told, tuple(sorted(told)))
            self.assertIs(are_ruler(told), True)
            self.assertEqual(len(told), prime)
            self.assertTrue(told[-1] - told[0] < 2 * prime * prime)
        self.assertEqual([prime_ruler(2), prime_ruler(prime=3)], [(0, 5), (0, 7, 13)])

    def test_no_primes(self):
        for value in NOT_WHOLE + [k for k in range(-5, 70) if k not in small_primes(59)] + [997, GREAT, -GREAT, -2]:
            wanted(self, InvalidNumber, lambda value=value: prime_ruler(value), given=value)


class Refusals(unittest.TestCase):
    def test_marks_and_rulers(self):
        for call in (lambda ruler: can_be_added(ruler, 0), lambda ruler: can_be_added(ruler, None),
                     lambda ruler: places_for(ruler, 0, 5), lambda ruler: places_for(ruler, None, None), next_mark,
                     lambda ruler: with_next(ruler, 0), lambda ruler: with_next(ruler, 61),
                     lambda ruler: with_next(ruler, None)):
            refuses_wrong_marks(self, InvalidMarks, call)
            for marks in NO_RULERS:
                wanted(self, NotRuler, lambda call=call, marks=marks: call(marks), given=marks)

    def test_numbers(self):
        for value in NOT_WHOLE:
            wanted(self, InvalidNumber, lambda value=value: can_be_added((0, 1), value), given=value)
            wanted(self, InvalidNumber, lambda value=value: places_for((0, 1), value, None), given=value)
            wanted(self, InvalidNumber, lambda value=value: places_for((0, 1), value, 5), given=value)
            wanted(self, InvalidNumber, lambda value=value: places_for((0, 1), 5, value), given=value)
            wanted(self, InvalidNumber, lambda value=value: with_next((0, 1), value), given=value)
            wanted(self, InvalidNumber, lambda value=value: with_next(prime_marks(59) + (20000,), value), given=value)
        for value in (-1, -GREAT):
            wanted(self, InvalidNumber, lambda value=value: with_next((), value), given=value)
            wanted(self, InvalidNumber, lambda value=value: with_next(prime_marks(59) + (20000,), value), given=value)


if __name__ == "__main__":
    unittest.main()
