"""[F1] to [F3], [F5], [F8] and rulers.py."""

import unittest
from itertools import combinations

from samegaps.errors import InvalidMarks, InvalidNumber, InvalidRow, NotPlain
from samegaps.gaps import differences
from samegaps.rows import is_plain
from samegaps.rulers import gaps_of, is_complete, is_ruler, measured, missing, places_of, plain_row, ruler_part, twice
from samples import FOUR_HUNDRED, GREAT, NOT_WHOLE, RULER, along, back, by_number, dice, prime_marks
from samples import refuses_wrong_marks, refuses_wrong_rows, small_primes, times, wanted


def pairs(marks):
    """All pairs of marks, ascending, by their lengths."""
    found = {}
    for low, high in combinations(marks, 2):
        found.setdefault(high - low, []).append((low, high))
    return found


def some_marks():
    """MARKS of any kind: none, one, below 0, of many figures, sixty, rulers and others."""
    rng = dice(121)
    told = [(), (0,), (-7,), (GREAT,), (3, 9), (-GREAT, GREAT), tuple(range(60)), tuple(2 ** k for k in range(60)),
            tuple(range(-400, 800, 20)), (0, 1, 4, 6), (0, 1, 2, 6, 9), (0, 1, 3, 6, 10, 15), prime_marks(59),
            tuple(-2 ** k for k in range(60))[::-1]]
    for _ in range(120):
        size = rng.choice((9, 30, 200, GREAT))
        told.append(tuple(sorted({rng.randint(-size, size) for _ in range(rng.randint(2, 9))})))
    return told


class Examples(unittest.TestCase):
    def test_of_the_document(self):
        self.assertEqual([plain_row((-1, 4)), places_of(((2, 1), (9, 1))), gaps_of((0, 1, 4, 6)), measured((0, 1, 4, 6)),
                          is_ruler((0, 1, 4, 6)), is_complete((0, 1, 4, 6))],
                         [((-1, 1), (4, 1)), (2, 9), (1, 3, 2), (1, 2, 3, 4, 5, 6), True, True])
        self.assertEqual([twice((0, 1, 4, 6)), twice((0, 2, 4))[0], missing((0, 1, 5, 8), 9),
                          is_complete((0, 1, 2, 6, 9)), is_ruler((0, 1, 2, 6, 9)), ruler_part((0, 1, 3, 4, 10))],
                         [None, 2, (2, 6, 9), True, False, 3])
        # By hand: 0, 1, 5, 8 measure 1, 3, 4, 5, 7, 8.
        self.assertEqual(measured((0, 1, 5, 8)), (1, 3, 4, 5, 7, 8))


class Marks(unittest.TestCase):
    def test_there_and_back(self):
        for marks in some_marks():
            row = plain_row(marks)
            self.assertEqual(row, tuple((mark, 1) for mark in marks))
            self.assertIs(is_plain(row), True)
            self.assertEqual(places_of(row), marks)
        self.assertEqual(plain_row(marks=(4,)), ((4, 1),))
        self.assertEqual(places_of(row=((4, 1),)), (4,))

    def test_gaps(self):
        for marks in some_marks():
            told = gaps_of(marks)
            self.assertEqual(len(told), max(0, len(marks) - 1))
            self.assertEqual(marks[:1] + tuple(marks[0] + sum(told[:k + 1]) for k in range(len(told))), marks)
        self.assertEqual(gaps_of(marks=(-3, 4, 40)), (7, 36))

    def test_measured(self):
        for marks in some_marks():
            self.assertEqual(measured(marks), tuple(sorted(pairs(marks))))
        self.assertEqual(measured(marks=(-3, 4, 40)), (7, 36, 43))


class Rulers(unittest.TestCase):
    def test_counted(self):
        kinds = set()
        for marks in some_marks():
            found = pairs(marks)
            is_one = max([len(told) for told in found.values()], default=1) == 1
            self.assertIs(is_ruler(marks), is_one)
            told = differences(plain_row(marks)) if len(found) <= 199 else None
            if told is not None:
                # A ruler exactly if no difference but 0 comes more often than once.
                self.assertIs(all(weight == 1 for d, weight in told if d), is_one)
            sums = [marks[a] + marks[b] for a in range(len(marks)) for b in range(a + 1)]
            self.assertIs(len(set(sums)) == len(sums), is_one)
            self.check_twice(marks, found, is_one)
            kinds.add((is_one, len(marks) > 2))
        self.assertEqual(kinds, {(True, False), (True, True), (False, True)})
        self.assertIs(is_ruler(marks=(0, 1, 3)), True)

    def check_twice(self, marks, found, is_one):
        told = twice(marks)
        if is_one:
            self.assertIsNone(told)
            return
        self.assertIs(type(told), tuple)
        length, pair, more = told
        self.assertNotEqual(pair, more)
        self.assertIn(pair, found[length])
        self.assertIn(more, found[length])

    def test_all_small_ones(self):
        for many in range(6):
            for marks in combinations(range(9), many):
                found = pairs(marks)
                is_one = len(found) == many * (many - 1) // 2
                self.assertIs(is_ruler(marks), is_one)
                self.check_twice(marks, found, is_one)
                self.assertIs(is_complete(marks), set(found) == set(range(1, marks[-1] - marks[0] + 1)) if marks else True)
                part = [k for k in range(many + 1) if len(pairs(marks[:k])) == k * (k - 1) // 2]
                self.assertEqual(ruler_part(marks), max(part))

    def test_what_stays_one(self):
        rng = dice(122)
        for prime in small_primes(59):
            marks = prime_marks(prime)
            self.assertIs(is_ruler(marks), True)
            number = rng.choice((-1, 3, -GREAT))
            for other in (tuple(mark + GREAT for mark in marks), tuple(-mark for mark in marks[::-1]),
                          tuple(sorted(mark * number for mark in marks)),
                          tuple(sorted(rng.sample(marks, rng.randint(0, prime))))):
                self.assertIs(is_ruler(other), True)
                self.assertEqual(ruler_part(other), len(other))

    def test_bent_at_one_mark(self):
        marks = prime_marks(13)
        for at in range(13):
            others = marks[:at] + marks[at + 1:]
            if at == 0:
                low = others[1] - (others[2] - others[0])
            else:
                low = others[at - 1] + others[1] - others[0] if at > 1 else others[0] + others[3] - others[2]
            bent = tuple(sorted(set(others) | {low}))
            self.assertEqual(len(bent), 13)
            self.assertIs(is_ruler(bent), False)
            self.check_twice(bent, pairs(bent), False)
            part = max(k for k in range(14) if len(pairs(bent[:k])) == k * (k - 1) // 2)
            self.assertEqual(ruler_part(bent), part)

    def test_part(self):
        for marks in some_marks():
            part = [k for k in range(len(marks) + 1) if len(pairs(marks[:k])) == k * (k - 1) // 2]
            self.assertEqual(ruler_part(marks), max(part))
        self.assertEqual([ruler_part(()), ruler_part((5,)), ruler_part((0, 1, 2)), ruler_part(marks=(0, 1, 3, 7, 12, 13))],
                         [0, 1, 2, 5])
        self.assertEqual(ruler_part(tuple(range(60))), 2)
        self.assertEqual(ruler_part(prime_marks(59)), 59)
        self.assertEqual(ruler_part(prime_marks(59) + (GREAT,)), 60)

    def test_no_sums(self):
        rng = dice(123)
        for _ in range(60):
            u, v = [tuple(sorted({rng.randint(0, 20) for _ in range(rng.randint(2, 4))})) for _ in range(2)]
            row = times(tuple((mark, 1) for mark in u), tuple((mark, 1) for mark in v))
            if len(u) > 1 and len(v) > 1 and is_plain(row):
                self.assertIs(is_ruler(places_of(row)), False)


class Complete(unittest.TestCase):
    def test_missing(self):
        rng = dice(124)
        for marks in some_marks():
            for most in (0, 1, rng.randint(2, 50), 4000):
                found = pairs(marks)
                self.assertEqual(missing(marks, most), tuple(k for k in range(1, most + 1) if k not in found))
        self.assertEqual(missing((), 4000), tuple(range(1, 4001)))
        self.assertEqual(missing((0, 1), 0), ())
        self.assertEqual(missing(marks=(0, 1, 4, 6), most=6), ())
        self.assertEqual(missing((0, 4000), 4000), tuple(range(1, 4000)))

    def test_complete(self):
        for marks in some_marks():
            found = pairs(marks)
            spread = marks[-1] - marks[0] if marks else 0
            self.assertIs(is_complete(marks), all(k in found for k in range(1, spread + 1)) if spread < 9999 else False)
        for marks in ((), (4,), (-GREAT,), (GREAT, GREAT + 1), (-3, -2, 0), (0, 1, 2, 6, 9), (0, 1, 4, 6),
                      tuple(range(-30, 30)), tuple(range(30)) + tuple(range(59, 930, 30))):
            self.assertIs(is_complete(marks=marks), True)
        for marks in ((0, 2), (0, 1, 4), (0, 1, 2, 6, 10), (0, GREAT), tuple(range(0, 120, 2)),
                      tuple(range(29)) + tuple(range(59, 930, 30))):
            self.assertIs(is_complete(marks), False)
        # Each length just once: no more than four marks.
        once = [marks for many in range(1, 6) for marks in combinations(range(11), many)
                if is_ruler(marks) and is_complete(marks) and marks[0] == 0]
        self.assertEqual(sorted(gaps_of(marks) for marks in once), [(), (1,), (1, 2), (1, 3, 2), (2, 1), (2, 3, 1)])


class Refusals(unittest.TestCase):
    def test_marks(self):
        for call in (plain_row, gaps_of, measured, is_ruler, twice, is_complete, ruler_part,
                     lambda marks: missing(marks, 5), lambda marks: missing(marks, None)):
            refuses_wrong_marks(self, InvalidMarks, call)

    def test_most(self):
        for value in NOT_WHOLE + [-1, 4001, GREAT, -GREAT]:
            wanted(self, InvalidNumber, lambda value=value: missing((0, 1), value), given=value)

    def test_rows(self):
        refuses_wrong_rows(self, InvalidRow, places_of)
        for row in (((0, 2),), ((0, -1),), by_number(RULER, -1), times(RULER, RULER), FOUR_HUNDRED,
                    tuple((p, 1) for p in range(61)), tuple((p, 1) for p in range(400)), ((0, 1), (5, GREAT))):
            wanted(self, NotPlain, lambda row=row: places_of(row))
        self.assertEqual(places_of(()), ())
        self.assertEqual(places_of(along(back(RULER), GREAT)), (GREAT - 4, GREAT - 1, GREAT))
        self.assertEqual(places_of(tuple((p, 1) for p in range(60))), tuple(range(60)))


if __name__ == "__main__":
    unittest.main()
