"""[C1], [C2] and factors.py."""

import unittest
from itertools import combinations_with_replacement
from math import gcd

from samegaps.errors import InvalidNumber, InvalidRow, InvalidRows, NotCore, NotNow, TooLong
from samegaps.factors import core_of, how_often, is_atom, layers, parted, put_together, slope
from samegaps.rows import bare, content
from samples import FOUR_HUNDRED, GREAT, NOT_TUPLES, WRONG_ROWS, Odd, all_times, along, by_number, dice, moved_letter
from samples import nested, refuses_not_whole, refuses_wrong_rows, small_primes, some_row, square_roots, times, wanted

ONE = ((0, 1),)
UP = ((0, 1), (1, 1))
FOUR = ((0, 1), (4, 1))
LONG = ((0, 1), (1, 1), (61, 1))
# Atoms, by Eisenstein's rule, as rows of square roots, as ring atoms, or modulo a small prime.
ATOMS = [
    ((0, -1), (1, 1)), UP, ((0, 2), (1, 1)), ((0, -7), (1, 3)), ((0, 1), (2, 1)), ((0, 1), (1, 1), (2, 1)),
    ((0, 1), (1, 1), (4, 1)), FOUR, ((0, 1), (1, 1), (2, 1), (3, 1), (4, 1)), ((0, 2), (1, 4), (5, 1)),
    ((0, -6), (3, 9), (7, 2)), ((0, 10 ** 60 + 1), (1, 10 ** 60)), ((0, 3), (2, 3 * 10 ** 40), (3, 1)),
    square_roots((2, 3)), square_roots((2, 3, 5)), moved_letter(FOUR, 3), ((0, GREAT), (1, 1)),
]
# Rows that are no cores, whatever else they are.
NO_CORES = [(), ONE, ((0, -1),), ((0, 2), (1, 2)), ((1, 1), (2, 1)), ((-1, 1), (0, 1)), ((0, 1), (1, -1)), ((5, 3),),
            ((0, 6), (1, 4))]


class Examples(unittest.TestCase):
    def test_of_the_document(self):
        up, four = ((0, 1), (1, 1)), ((0, 1), (4, 1))
        self.assertEqual([core_of(((2, -6), (3, 4), (5, -2))), slope(((-1, 4), (0, 5), (2, 3))),
                          layers(((0, 2), (1, 5), (2, 4), (3, 1)))],
                         [(-1, 2, 2, ((0, 3), (1, -2), (3, 1))), ((-1, -4), (2, 6)),
                          ((1, ((0, 2), (1, 1))), (2, ((0, 1), (1, 1))))])
        self.assertEqual([parted(((0, 2), (1, 5), (2, 4), (3, 1)))[3], parted(((0, 1), (4, -1))), parted(((7, -12),))],
                         [((((0, 1), (1, 1)), 2), (((0, 2), (1, 1)), 1)),
                          (-1, 1, 0, ((((0, -1), (1, 1)), 1), (((0, 1), (1, 1)), 1), (((0, 1), (2, 1)), 1))),
                          (-1, 12, 7, ())])
        self.assertEqual([put_together(-1, 2, 3, ((up, 2),)), is_atom(four), is_atom(((0, 4), (4, 1))),
                          is_atom(((0, 2), (1, 2))), how_often(((0, 1), (1, 3), (2, 3), (3, 1)), up)],
                         [((3, -2), (4, -4), (5, -2)), True, False, False, 3])


class Cores(unittest.TestCase):
    def test_core_of(self):
        rng = dice(21)
        for _ in range(60):
            row = along(some_row(rng, rng.randint(1, 6), 90, rng.choice((3, 12, GREAT))), rng.randint(-GREAT, GREAT))
            sign, most, place, core = core_of(row)
            self.assertEqual((sign, most, place), (1 if row[-1][1] > 0 else -1, content(row), row[0][0]))
            self.assertEqual(core, bare(row))
            self.assertEqual(along(by_number(core, sign * most), place), row)
        self.assertEqual(core_of(((9, -4),)), (-1, 4, 9, ONE))
        self.assertEqual(core_of(LONG), (1, 1, 0, LONG))

    def test_slope(self):
        self.assertEqual(slope(()), ())
        self.assertEqual(slope(((0, 5),)), ())
        self.assertEqual(slope(((GREAT, -2),)), ((GREAT, -2 * GREAT),))
        self.assertEqual(len(slope(FOUR_HUNDRED)), 400)
        self.assertEqual(len(slope(along(FOUR_HUNDRED, 7))), 399)
        rng = dice(22)
        for _ in range(20):
            one, other = some_row(rng, 4, 9, 5), some_row(rng, 4, 9, 5)
            both = times(slope(one), other), times(one, slope(other))
            told = {}
            for place, weight in both[0] + both[1]:
                told[place] = told.get(place, 0) + weight
            self.assertEqual(slope(times(one, other)), tuple(sorted((p, w) for p, w in told.items() if w)))


class Products(unittest.TestCase):
    def chosen(self, seed):
        rng = dice(seed)
        for _ in range(60):
            lots = {}
            spread = 0
            for _ in range(rng.randint(0, 6)):
                atom, often = rng.choice(ATOMS), rng.choice((1, 1, 1, 2, 3))
                if spread + often * atom[-1][0] <= 60:
                    spread += often * atom[-1][0]
                    lots[atom] = lots.get(atom, 0) + often
            yield rng.choice((1, -1)), rng.choice((1, 12, GREAT)), rng.choice((0, -5, GREAT)), lots

    def test_parted(self):
        for sign, most, place, lots in self.chosen(23):
            core = all_times([atom for atom, often in lots.items() for _ in range(often)])
            row = along(by_number(core, sign * most), place)
            told = tuple(sorted(lots.items()))
            self.assertEqual(parted(row), (sign, most, place, told))
            self.assertEqual(put_together(sign, most, place, told), row)
            self.assertEqual(put_together(sign, most, place, told[::-1]), row)
            for atom in ATOMS[:9]:
                self.assertEqual(how_often(row, atom), lots.get(atom, 0))
            self.assertIs(is_atom(core), sum(lots.values()) == 1)

    def test_layers(self):
        for sign, most, place, lots in self.chosen(24):
            row = along(by_number(all_times([a for a, k in lots.items() for _ in range(k)]), sign * most), place)
            wanted_layers = []
            for often in sorted(set(lots.values())):
                wanted_layers.append((often, all_times([atom for atom, k in lots.items() if k == often])))
            self.assertEqual(layers(row), tuple(wanted_layers))

    def test_all_small_rows(self):
        # Each core of spread up to 3 with small weights, against all products of smaller ones.
        cores = {1: [], 2: [], 3: []}
        for spread in cores:
            for first in range(-4, 5):
                for last in range(1, 5):
                    for middle in range((9 ** (spread - 1))):
                        weights = [first] + [middle // 9 ** k % 9 - 4 for k in range(spread - 1)] + [last]
                        if first and gcd(*weights) == 1:
                            cores[spread].append(tuple((p, w) for p, w in enumerate(weights) if w))
        small = cores[1]
        products = {times(a, b) for a, b in combinations_with_replacement(small, 2)}
        lines = [((0, a), (1, b)) for a in range(-16, 17) for b in range(1, 17) if a and gcd(a, b) == 1]
        for core in cores[2]:
            ends = [line for line in lines if core[0][1] % line[0][1] == 0 and core[-1][1] % line[1][1] == 0]
            zero = any(sum(w * (-line[0][1]) ** p * line[1][1] ** (2 - p) for p, w in core) == 0 for line in ends)
            self.assertIs(is_atom(core), not zero)
            self.assertTrue(zero or core not in products)
        for core in cores[3][::7]:
            ends = [line for line in lines if core[0][1] % line[0][1] == 0 and core[-1][1] % line[1][1] == 0]
            zero = any(sum(w * (-line[0][1]) ** p * line[1][1] ** (3 - p) for p, w in core) == 0 for line in ends)
            self.assertIs(is_atom(core), not zero)

    def test_parted_modulo_each_prime(self):
        for atom in (FOUR, square_roots((2, 3, 5)), square_roots((2, 3, 5, 7)), square_roots((2, 3, 5, 7, 11))):
            self.assertIs(is_atom(atom), True)
        three = [moved_letter(square_roots((2, 3, 5)), k) for k in (0, 1, 2)]
        self.assertEqual(parted(all_times(three))[3], tuple(sorted((atom, 1) for atom in three)))
        fours = [moved_letter(FOUR, k) for k in range(-7, 8)]
        self.assertEqual(parted(all_times(fours))[3], tuple(sorted((atom, 1) for atom in fours)))

    def test_served_by_no_small_prime(self):
        primes = small_primes(997)
        one, two, three, four = 1, 1, 1, 1
        for at, prime in enumerate(primes):
            one, two = one * (prime if at % 4 == 0 else 1), two * (prime if at % 4 == 1 else 1)
            three, four = three * (prime if at % 4 == 2 else 1), four * (prime if at % 4 == 3 else 1)
        left, right = ((0, one), (1, two)), ((0, three), (1, four))
        row = times(left, right)
        self.assertEqual(parted(row), (1, 1, 0, tuple(sorted(((left, 1), (right, 1))))))
        core = ((0, one * two), (1, 1), (2, three * four))
        self.assertIs(is_atom(core), True)
        self.assertIs(is_atom(times(core, FOUR)), False)
        # Modulo each prime up to 997 two of these zeros are one.
        zeros = [((0, -1), (1, 1)), ((0, -1 - one * two), (1, 1)), ((0, -1 - three * four), (1, 1))]
        self.assertEqual(parted(times(all_times(zeros), FOUR))[3], tuple(sorted((atom, 1) for atom in zeros + [FOUR])))

    def test_sixty(self):
        flat = ((0, -1), (60, 1))
        sign, most, place, atoms = parted(flat)
        self.assertEqual((sign, most, place, len(atoms)), (1, 1, 0, 12))
        self.assertEqual(all_times([atom for atom, _ in atoms]), flat)
        self.assertEqual(parted(all_times([UP] * 60)), (1, 1, 0, ((UP, 60),)))
        self.assertEqual(layers(all_times([UP] * 60)), ((60, UP),))
        lines = [((0, k), (1, 1)) for k in range(1, 61)]
        self.assertEqual(parted(all_times(lines))[3], tuple((line, 1) for line in lines))
        rng = dice(25)
        great = tuple((p, 2 * rng.randint(1, GREAT)) for p in range(60)) + ((60, 1),)
        great = ((0, great[0][1] // 4 * 4 + 2),) + great[1:]
        self.assertIs(is_atom(great), True)
        self.assertIs(is_atom(along(great, 1)), False)

    def test_numbers_of_many_figures(self):
        rng = dice(26)
        parts = []
        for spread in (3, 8, 11):
            row = tuple((p, 6 * rng.randint(-10 ** 99, 10 ** 99)) for p in range(1, spread)) + ((spread, 1),)
            parts.append(((0, 6 * (6 * rng.randint(1, 10 ** 99) + 1)),) + tuple((p, w) for p, w in row if w))
        row = by_number(all_times(parts + parts[:1]), -GREAT)
        told = tuple(sorted([(parts[0], 2), (parts[1], 1), (parts[2], 1)]))
        self.assertEqual(parted(row), (-1, GREAT, 0, told))


class Refusals(unittest.TestCase):
    def test_rows(self):
        for call in (core_of, slope, layers, parted, is_atom):
            refuses_wrong_rows(self, InvalidRow, call)
        refuses_wrong_rows(self, InvalidRow, lambda value: how_often(value, None))
        refuses_wrong_rows(self, InvalidRow, lambda value: how_often((), value))

    def test_nought_and_too_long(self):
        for call in (core_of, layers, parted):
            wanted(self, NotNow, lambda call=call: call(()))
        self.assertIs(is_atom(()), False)
        for call in (layers, parted, is_atom):
            for row in (LONG, ((-30, 2), (31, 2)), ((0, -1), (GREAT, 1))):
                wanted(self, TooLong, lambda call=call, row=row: call(row))
            call(((-30, 2), (30, -2)))
            call(((GREAT, 1), (GREAT + 60, 1)))
        for row in NO_CORES:
            self.assertIs(is_atom(row), False)

    def test_how_often(self):
        for core in NO_CORES:
            for row in (UP, (), LONG):
                wanted(self, NotCore, lambda core=core, row=row: how_often(row, core), given=core)
        wanted(self, NotNow, lambda: how_often((), UP))
        wanted(self, NotNow, lambda: how_often((), LONG))
        wanted(self, TooLong, lambda: how_often(LONG, UP))
        wanted(self, TooLong, lambda: how_often(UP, LONG))
        self.assertEqual(how_often(core=UP, row=((7, -5),)), 0)
        self.assertEqual(how_often(times(FOUR, times(FOUR, UP)), times(FOUR, UP)), 1)
        self.assertEqual(how_often(((3, 4), (4, -4)), ((0, -1), (1, 1))), 1)

    def test_put_together(self):
        wrong = [None, True, False, 0, 2, -2, GREAT, "1", (1,), [], Odd(), nested(20)]
        for value in wrong:
            wanted(self, InvalidNumber, lambda value=value: put_together(value, 0, None, None), given=value)
        for value in [None, True, 0, -1, -GREAT, "1", (1,), [], Odd()]:
            wanted(self, InvalidNumber, lambda value=value: put_together(1, value, None, None), given=value)
        refuses_not_whole(self, InvalidNumber, lambda value: put_together(-1, 1, value, None))
        for value in NOT_TUPLES:
            wanted(self, InvalidRows, lambda value=value: put_together(1, 1, 0, value), index=None)
        good = (UP, 70)
        elements = [(core, 1) for core in NO_CORES] + [(value, 1) for value, _ in WRONG_ROWS]
        elements += [(UP, 0), (UP, -1), (UP, True), (UP, None), (UP, "1"), (UP,), (UP, 1, 1), [UP, 1], None, UP, 5]
        for value in elements:
            wanted(self, InvalidRows, lambda value=value: put_together(1, 1, 0, (good, value, None)), index=1)
        for atoms in (((UP, 61),), ((LONG, 1),), ((UP, 30), (UP, 31)), ((FOUR, 15), (UP, 1)), ((UP, GREAT),)):
            wanted(self, TooLong, lambda atoms=atoms: put_together(1, 1, 0, atoms))
        self.assertEqual(put_together(1, 1, 0, ((FOUR, 15),)), all_times([FOUR] * 15))
        self.assertEqual(put_together(atoms=(), place=-GREAT, content=GREAT, sign=-1), ((-GREAT, -GREAT),))
        both = times(UP, FOUR)
        self.assertEqual(put_together(1, 1, 0, ((both, 1), (UP, 2), (UP, 1))), all_times([both, UP, UP, UP]))


if __name__ == "__main__":
    unittest.main()
