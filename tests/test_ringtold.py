"""[E6], [E7] and ringtold.py."""

import unittest
from itertools import combinations

from samegaps.errors import InvalidLot, InvalidNumbers, InvalidWhole
from samegaps.ringtold import classes_told, flat_number, lots_told, mates
from samples import GREAT, NOT_TUPLES, NO_RINGS, Odd, apart_round, dice, nested, refuses_wrong_lots, wanted

# What is no tuple of eight numbers and the index that is told.
WRONG_NUMBERS = [(value, None) for value in NOT_TUPLES] + [
    ((), None), ((0,) * 7, None), ((0,) * 9, None), ((-1,) * 9, None), ((None,) * 7, None), (nested(20), None),
    ((None,) + (0,) * 7, 0), ((True,) + (0,) * 7, 0), ((0, False) + (0,) * 6, 1), ((0, -1) + (0,) * 6, 1),
    ((0, 0, "0", None, 0, 0, 0, 0), 2), ((0, 0, 0, b"0", 0, 0, 0, 0), 3), ((0,) * 7 + ((0,),), 7),
    ((0,) * 7 + ([0],), 7), ((0,) * 7 + (Odd(),), 7), ((0,) * 6 + (nested(19), -GREAT), 6), ((0,) * 7 + (-GREAT,), 7),
    ((0,) * 7 + (2j,), 7),
]


def all_lots(n):
    """All lots of a ring."""
    return [lot for many in range(n + 1) for lot in combinations(range(n), many)]


def class_of(n, lot):
    """All lots alike to one."""
    return {tuple(sorted((sign * place + turn) % n for place in lot)) for sign in (1, -1) for turn in range(n)}


def by_differences(n):
    """All lots of a ring, ascending, by their differences round."""
    found = {}
    for lot in sorted(all_lots(n)):
        found.setdefault(apart_round(n, lot), []).append(lot)
    return found


class Examples(unittest.TestCase):
    def test_of_the_document(self):
        self.assertEqual(mates(8, (0, 1, 3, 4)), ((0, 1, 2, 5),))
        self.assertEqual([flat_number(7, (0, 1, 3)), flat_number(7, (2, 4, 5, 6)), flat_number(8, (0, 1, 3, 4)),
                          len(lots_told(7, (3, 1, 1, 1, 1, 1, 1))), classes_told(7, (3, 1, 1, 1, 1, 1, 1))],
                         [1, 2, None, 14, ((0, 1, 3),)])


class Told(unittest.TestCase):
    def test_beside_a_trial_of_all(self):
        several = 0
        for n in range(1, 13):
            for numbers, lots in by_differences(n).items():
                self.assertEqual(lots_told(n, numbers), tuple(lots))
                classes = tuple(sorted({min(class_of(n, lot)) for lot in lots}))
                self.assertEqual(classes_told(n=n, numbers=numbers), classes)
                own = min(class_of(n, lots[-1]))
                self.assertEqual(mates(n, lots[-1]), tuple(lot for lot in classes if lot != own))
                several += len(classes) > 1
        # Of rows of notes: with 12 places one of four, three of five, three of seven, one of eight, fifteen of six.
        self.assertEqual(several, 1 + 3 + 23)

    def test_nobodys(self):
        rng = dice(111)
        nobodys = 0
        for n in range(1, 11):
            found = by_differences(n)
            for numbers in list(found):
                for _ in range(3):
                    at = rng.randrange(n)
                    bent = list(numbers)
                    bent[at] = max(0, bent[at] + rng.choice((1, -1, GREAT)))
                    if rng.randint(0, 1) and at:
                        bent[n - at] = bent[at]
                    told = tuple(found.get(tuple(bent), ()))
                    self.assertEqual(lots_told(n=n, numbers=tuple(bent)), told)
                    self.assertEqual(classes_told(n, tuple(bent)) == (), told == ())
                    nobodys += told == ()
        self.assertTrue(nobodys > 300)
        self.assertEqual([lots_told(1, (2,)), lots_told(4, (0, 0, 1, 0)), lots_told(4, (GREAT, 0, 0, 0))], [(), (), ()])
        self.assertEqual([lots_told(1, (GREAT,)), lots_told(3, (2, 2, 0)), classes_told(3, (4, 4, 4))], [(), (), ()])

    def test_none_and_all(self):
        for n in range(1, 17):
            self.assertEqual(lots_told(n, (0,) * n), ((),))
            self.assertEqual(classes_told(n, (0,) * n), ((),))
            self.assertEqual(lots_told(n, (n,) * n), (tuple(range(n)),))
            self.assertEqual(lots_told(n, (1,) + (0,) * (n - 1)), tuple((place,) for place in range(n)))
            self.assertEqual(classes_told(n, (1,) + (0,) * (n - 1)), ((0,),))
            self.assertEqual([mates(n, ()), mates(n, tuple(range(n))), mates(n, (n - 1,))], [(), (), ()])

    def test_sixteen(self):
        for lot in ((0, 1, 3, 4, 6, 9, 11, 12), (0, 1, 2, 5, 6, 8), (3, 4, 7, 9, 10, 11, 12, 13, 14, 15)):
            numbers = apart_round(16, lot)
            lots = [other for other in combinations(range(16), len(lot)) if apart_round(16, other) == numbers]
            self.assertEqual(lots_told(16, numbers), tuple(sorted(lots)))
            classes = tuple(sorted({min(class_of(16, other)) for other in lots}))
            self.assertEqual(classes_told(16, numbers), classes)
            self.assertEqual(mates(16, lot), tuple(other for other in classes if other not in class_of(16, lot)))

    def test_halves(self):
        rng = dice(112)
        more = 0
        for n in (6, 8, 10, 12, 14, 16):
            for _ in range(6):
                lot = tuple(sorted(rng.sample(range(n), n // 2)))
                rest = tuple(place for place in range(n) if place not in lot)
                least = min(class_of(n, rest))
                if rest not in class_of(n, lot):
                    self.assertIn(least, mates(n, lot))
                    self.assertIn(min(class_of(n, lot)), mates(n=n, lot=rest))
                    more += 1
                self.assertIn(rest, lots_told(n, apart_round(n, lot)))
        self.assertTrue(more > 5)


class Flat(unittest.TestCase):
    def test_counted(self):
        for n in range(1, 11):
            for lot in all_lots(n):
                told = set(apart_round(n, lot)[1:])
                number = told.pop() if len(lot) > 1 and len(told) == 1 else None
                self.assertEqual(flat_number(n, lot), number)
                if number is not None:
                    self.assertEqual(len(lot) * (len(lot) - 1), number * (n - 1))

    def test_known_ones(self):
        # What a number leaves when it is squared, round a prime that leaves 3 by 4; all places; all but one.
        for prime in (3, 7, 11):
            squares = tuple(sorted({k * k % prime for k in range(1, prime)}))
            self.assertEqual(flat_number(prime, squares), (prime - 3) // 4 if prime > 3 else None)
        self.assertEqual([flat_number(13, (0, 1, 3, 9)), flat_number(15, (0, 1, 2, 4, 5, 8, 10)),
                          flat_number(13, (1, 3, 9))], [1, 3, None])
        for n in range(2, 17):
            self.assertEqual(flat_number(n, tuple(range(n))), n)
            self.assertEqual(flat_number(n, tuple(range(1, n))), n - 2 if n > 2 else None)
        rest = tuple(place for place in range(15) if place not in (0, 1, 2, 4, 5, 8, 10))
        self.assertEqual(flat_number(15, rest), 4)

    def test_few_places(self):
        for n in range(1, 17):
            self.assertIsNone(flat_number(n, ()))
            for place in range(n):
                self.assertIsNone(flat_number(n=n, lot=(place,)))
            for one, other in combinations(range(n), 2):
                self.assertEqual(flat_number(n, (one, other)), {2: 2, 3: 1}.get(n))


class Refusals(unittest.TestCase):
    def test_rings(self):
        for value in NO_RINGS + [17, 60]:
            for call in (lots_told, classes_told, mates, flat_number):
                wanted(self, InvalidWhole, lambda call=call, value=value: call(value, None), given=value)
                wanted(self, InvalidWhole, lambda call=call, value=value: call(value, ()), given=value)

    def test_numbers(self):
        for call in (lots_told, classes_told):
            for value, index in WRONG_NUMBERS:
                wanted(self, InvalidNumbers, lambda call=call, value=value: call(8, value), index=index)
            wanted(self, InvalidNumbers, lambda call=call: call(16, (1,) * 15), index=None)
            wanted(self, InvalidNumbers, lambda call=call: call(16, (1,) * 15 + (-1,)), index=15)

    def test_lots(self):
        for call in (mates, flat_number):
            refuses_wrong_lots(self, InvalidLot, lambda lot, call=call: call(8, lot))
            wanted(self, InvalidLot, lambda call=call: call(16, (3, 16)), index=1)


if __name__ == "__main__":
    unittest.main()
