"""[E4], [E5] and rings.py."""

import unittest
from itertools import combinations
from math import gcd

from samegaps.errors import InvalidLot, InvalidRow, InvalidWhole
from samegaps.gaps import differences
from samegaps.rings import differences_round, how_alike, least_alike, mirrored_round, multiplied, rest_round, rolled
from samegaps.rings import turned_round
from samples import FOUR_HUNDRED, GREAT, NOT_WHOLE, NO_RINGS, RULER, along, apart_round, back, dice, refuses_not_whole
from samples import refuses_wrong_lots, refuses_wrong_rows, some_row, times, wanted


def some_lots():
    """Lots of all rings from 1 to 60 places: none, all, one place, some."""
    rng = dice(101)
    for n in range(1, 61):
        yield n, ()
        yield n, tuple(range(n))
        yield n, (n - 1,)
        for many in (rng.randint(0, n), n // 2):
            yield n, tuple(sorted(rng.sample(range(n), many)))


def all_lots(n):
    """All lots of a ring."""
    return [lot for many in range(n + 1) for lot in combinations(range(n), many)]


class Examples(unittest.TestCase):
    def test_of_the_document(self):
        self.assertEqual([differences_round(8, (0, 1, 3, 4)), rest_round(8, (0, 1, 3, 4)),
                          differences_round(8, (2, 5, 6, 7)), turned_round(8, (0, 1, 3, 4), 5),
                          multiplied(8, (0, 1, 3, 4), 3)],
                         [(4, 2, 1, 2, 2, 2, 1, 2), (2, 5, 6, 7), (4, 2, 1, 2, 2, 2, 1, 2), (0, 1, 5, 6), (0, 1, 3, 4)])
        self.assertEqual([how_alike(8, (0, 1, 3, 4), (0, 1, 5, 6)), least_alike(8, (2, 5, 6, 7)),
                          rolled(4, ((0, 1), (4, 2), (5, -1)))], [(0, 5), (0, 1, 2, 5), (3, -1, 0, 0)])
        # By hand: 2, 5, 6, 7 turned by 3 are 5, 0, 1, 2.
        self.assertEqual(turned_round(8, (2, 5, 6, 7), 3), (0, 1, 2, 5))


class Differences(unittest.TestCase):
    def test_counted(self):
        for n, lot in some_lots():
            told = differences_round(n, lot)
            self.assertEqual(told, apart_round(n, lot))
            self.assertEqual(told[0], len(lot))
            self.assertEqual(sum(told), len(lot) ** 2)
            self.assertTrue(all(told[d] == told[n - d] for d in range(1, n)))
            self.assertTrue(n % 2 == 1 or told[n // 2] % 2 == 0)

    def test_rests(self):
        for n, lot in some_lots():
            rest = rest_round(n, lot)
            self.assertEqual(rest, tuple(place for place in range(n) if place not in lot))
            self.assertEqual(rest_round(n=n, lot=rest), lot)
            one, other = differences_round(n=n, lot=lot), differences_round(n, rest)
            self.assertEqual(other[1:], tuple(n - 2 * len(lot) + number for number in one[1:]))
            if 2 * len(lot) == n:
                self.assertEqual(one, other)


class Ways(unittest.TestCase):
    def test_turned(self):
        rng = dice(102)
        for n, lot in some_lots():
            for turn in (0, 1, -1, n, -n, n - 1, rng.randint(-99, 99), GREAT, -GREAT):
                told = turned_round(n, lot, turn)
                self.assertEqual(told, tuple(sorted((place + turn) % n for place in lot)))
                self.assertEqual(differences_round(n, told), apart_round(n, lot))
        self.assertEqual(turned_round(n=5, lot=(0, 4), turn=-2), (2, 3))

    def test_mirrored(self):
        for n, lot in some_lots():
            told = mirrored_round(n, lot)
            self.assertEqual(told, tuple(sorted(n - place if place else 0 for place in lot)))
            self.assertEqual(mirrored_round(n=n, lot=told), lot)
            self.assertEqual(differences_round(n, told), apart_round(n, lot))

    def test_multiplied(self):
        rng = dice(103)
        for n, lot in some_lots():
            lets = [many for many in range(1, n + 1) if gcd(many, n) == 1]
            one = apart_round(n, lot)
            for many in rng.sample(lets, min(4, len(lets))) + [lets[-1]]:
                told = multiplied(n, lot, many)
                self.assertEqual(told, tuple(sorted(place * many % n for place in lot)))
                other = differences_round(n, told)
                self.assertTrue(all(other[many * d % n] == one[d] for d in range(n)))
        self.assertEqual(multiplied(1, (0,), 1), (0,))
        self.assertEqual(multiplied(n=7, lot=(1, 2), many=6), (5, 6))

    def test_rolled(self):
        rng = dice(104)
        for n in range(1, 61):
            row = along(some_row(rng, rng.randint(0, 9), 99, rng.choice((1, 5, GREAT))), rng.choice((0, -50, GREAT)))
            told = tuple(sum(w for p, w in row if p % n == at) for at in range(n))
            self.assertEqual(rolled(n, row), told)
            other = along(some_row(rng, 4, 70, 3), -30)
            far = rolled(n, other)
            product = tuple(sum(told[a] * far[(at - a) % n] for a in range(n)) for at in range(n))
            self.assertEqual(rolled(n, times(row, other)), product)
            self.assertEqual(rolled(n, back(row)), tuple(told[-at % n] for at in range(n)))
            self.assertEqual(rolled(n, differences(row)),
                             tuple(sum(told[a] * told[(a - d) % n] for a in range(n)) for d in range(n)))
        self.assertEqual(rolled(7, ()), (0,) * 7)
        self.assertEqual(rolled(3, ((-4, 1), (-3, 2), (-1, 3), (2, -5), (GREAT, 9))),
                         tuple(a + 9 * (GREAT % 3 == at) for at, a in enumerate((2, 0, -1))))
        self.assertEqual(rolled(n=1, row=FOUR_HUNDRED), (sum(w for _, w in FOUR_HUNDRED),))


class Classes(unittest.TestCase):
    def ways(self, n, lot):
        """All ways of the lot: mirrored or not, and turned; with what becomes of it."""
        for is_mirrored in (0, 1):
            start = [(-place) % n if is_mirrored else place for place in lot]
            for turn in range(n):
                yield (is_mirrored, turn), tuple(sorted((place + turn) % n for place in start))

    def test_least_ones(self):
        for n, lot in some_lots():
            told = least_alike(n, lot)
            self.assertEqual(told, min(way for _, way in self.ways(n, lot)))
        for n in range(1, 8):
            for lot in all_lots(n):
                told = least_alike(n=n, lot=lot)
                self.assertEqual({least_alike(n, way) for _, way in self.ways(n, lot)}, {told})
                self.assertEqual(told[:1], (0,) if lot else ())

    def test_how_alike(self):
        for n in range(1, 7):
            for one in all_lots(n):
                for other in all_lots(n):
                    pairs = [pair for pair, way in self.ways(n, one) if way == other]
                    self.assertEqual(how_alike(n, one, other), min(pairs, default=None))
        rng = dice(105)
        for n, lot in some_lots():
            for pair, way in rng.sample(list(self.ways(n, lot)), 2):
                least = min(other for other, told in self.ways(n, lot) if told == way)
                self.assertEqual(how_alike(n, lot, way), least)
                self.assertTrue(least <= pair)
        self.assertEqual(how_alike(9, (), ()), (0, 0))
        self.assertEqual(how_alike(n=7, one=(0, 1, 3), other=(0, 2, 3)), (1, 3))
        self.assertIsNone(how_alike(7, (0, 1, 3), (0, 1, 2)))
        self.assertIsNone(how_alike(7, (0, 1, 3), (0, 1)))
        # The same differences round, but no way from one to the other.
        self.assertIsNone(how_alike(8, (0, 1, 3, 4), (2, 5, 6, 7)))


class Refusals(unittest.TestCase):
    def test_rings(self):
        calls = (differences_round, rest_round, mirrored_round, least_alike, rolled, lambda n, lot: turned_round(n, lot, 1),
                 lambda n, lot: multiplied(n, lot, 1), lambda n, lot: how_alike(n, lot, None))
        for call in calls:
            for value in NO_RINGS:
                wanted(self, InvalidWhole, lambda call=call, value=value: call(value, None), given=value)
                wanted(self, InvalidWhole, lambda call=call, value=value: call(value, ()), given=value)

    def test_lots(self):
        for call in (differences_round, rest_round, mirrored_round, least_alike):
            refuses_wrong_lots(self, InvalidLot, lambda lot, call=call: call(8, lot))
        for call in (turned_round, multiplied, how_alike):
            refuses_wrong_lots(self, InvalidLot, lambda lot, call=call: call(8, lot, 1))
            refuses_wrong_lots(self, InvalidLot, lambda lot, call=call: call(8, lot, None))
        refuses_wrong_lots(self, InvalidLot, lambda lot: how_alike(8, (), lot))
        refuses_wrong_lots(self, InvalidLot, lambda lot: how_alike(8, (0, 1), lot))
        wanted(self, InvalidLot, lambda: how_alike(8, (0, 8), (1, 2, 2)), index=1)
        wanted(self, InvalidLot, lambda: differences_round(1, (0, 1)), index=1)
        wanted(self, InvalidLot, lambda: differences_round(60, tuple(range(61))), index=60)
        wanted(self, InvalidLot, lambda: rest_round(3, (1, 2, 3)), index=2)

    def test_numbers(self):
        refuses_not_whole(self, InvalidWhole, lambda value: turned_round(8, (0, 1), value))
        for value in NOT_WHOLE + [0, -1, 9, 2, 4, 8, GREAT, -3]:
            wanted(self, InvalidWhole, lambda value=value: multiplied(8, (0, 1), value), given=value)
        for n in range(1, 61):
            for many in range(-1, n + 3):
                if 1 <= many <= n and gcd(many, n) == 1:
                    self.assertEqual(multiplied(n, (0,), many), (0,))
                else:
                    wanted(self, InvalidWhole, lambda n=n, many=many: multiplied(n, (), many), given=many)

    def test_rows(self):
        refuses_wrong_rows(self, InvalidRow, lambda value: rolled(8, value))
        self.assertEqual(rolled(60, along(RULER, -1)), (1,) + (0,) * 2 + (1,) + (0,) * 55 + (1,))


if __name__ == "__main__":
    unittest.main()
