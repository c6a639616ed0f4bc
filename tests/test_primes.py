"""[C3] to [C5] and primes.py."""

import unittest
from itertools import product as choices

from samegaps.errors import InvalidNumber, InvalidRow, NotCore, TooLong
from samegaps.primes import degrees, is_prime, lifted, modulo, parted_modulo, serves
from samples import FOUR_HUNDRED, GREAT, NOT_TUPLES, Odd, all_times, along, by_number, dice, moved_letter, nested
from samples import refuses_wrong_rows, small_primes, some_row, square_roots, times, wanted

ONE = ((0, 1),)
UP = ((0, 1), (1, 1))
FOUR = ((0, 1), (4, 1))
LONG = ((0, 1), (1, 1), (61, 1))
NO_CORES = [(), ONE, ((0, 2), (1, 2)), ((1, 1), (2, 1)), ((-1, 1), (0, 1)), ((0, 1), (1, -1)), ((5, 3),)]
NO_PRIMES = [None, True, False, 0, 1, -2, -3, 4, 9, 91, 961, 989, 998, 999, 1001, 1009, GREAT, "2", (2,), [2], {2}, b"2",
             Odd(), int, nested(20)]


def rest(row, prime):
    """The row modulo the prime."""
    return tuple((place, weight % prime) for place, weight in row if weight % prime)


def residue_atoms(prime, most):
    """All residue atoms up to a spread, by striking out all products."""
    found, made = [], set()
    for spread in range(1, most + 1):
        for weights in choices(range(prime), repeat=spread):
            row = tuple((p, w) for p, w in enumerate(weights + (1,)) if w)
            if row[0][0] == 0 and row not in made:
                found.append(row)
                fresh = [row]
                while fresh:
                    more = []
                    for one in fresh:
                        for atom in found:
                            both = rest(times(one, atom), prime)
                            if both[-1][0] <= most and both not in made:
                                made.add(both)
                                more.append(both)
                    fresh = more
    return found


class Examples(unittest.TestCase):
    def test_of_the_document(self):
        four = FOUR
        self.assertEqual([is_prime(97), is_prime(91), is_prime(1009), modulo(((0, 7), (1, -1), (2, 5)), 5),
                          parted_modulo(four, 5), parted_modulo(((0, 3), (1, 6)), 3)],
                         [True, False, False, ((0, 2), (1, 4)),
                          (1, 0, ((((0, 2), (2, 1)), 1), (((0, 3), (2, 1)), 1))), None])
        self.assertEqual([parted_modulo(((1, 4), (3, 8)), 3), serves(four, 2), serves(four, 5), degrees(four, 2),
                          degrees(((0, 2), (1, 1)), 2), degrees(((0, 1), (1, 1), (4, 1)), 2)],
                         [(2, 1, ((((0, 1), (1, 1)), 1), (((0, 2), (1, 1)), 1))), False, True, (1, 1, 1, 1), None,
                          (4,)])
        self.assertEqual(lifted(((0, 1), (2, 1)), 5, 2), (((0, 7), (1, 1)), ((0, 18), (1, 1))))


class Primes(unittest.TestCase):
    def test_is_prime(self):
        primes = small_primes(1100)
        for number in range(-10, 1100):
            self.assertIs(is_prime(number), number in primes and number <= 997)
        for value in NO_PRIMES + NOT_TUPLES:
            self.assertIs(is_prime(value), False)
        self.assertIs(is_prime(value=997), True)


class Residues(unittest.TestCase):
    def test_modulo(self):
        rng = dice(31)
        for prime in (2, 3, 101, 997):
            for _ in range(10):
                row = along(some_row(rng, 9, 200, rng.choice((5, GREAT))), rng.randint(-GREAT, GREAT))
                self.assertEqual(modulo(row, prime), rest(row, prime))
            self.assertEqual(modulo((), prime), ())
            self.assertEqual(modulo(FOUR_HUNDRED, prime), rest(FOUR_HUNDRED, prime))
        self.assertEqual(modulo(row=((0, -1), (1, 6)), prime=3), ((0, 2),))

    def test_parted_by_all_small_atoms(self):
        rng = dice(32)
        for prime, most in ((2, 7), (3, 5), (5, 3), (7, 2)):
            atoms = residue_atoms(prime, most)
            for atom in atoms:
                self.assertEqual(parted_modulo(atom, prime), (1, 0, ((atom, 1),)))
            for _ in range(40):
                lots = {}
                while sum(atom[-1][0] * k for atom, k in lots.items()) < rng.randint(1, 40):
                    atom = rng.choice(atoms)
                    lots[atom] = lots.get(atom, 0) + rng.choice((1, 1, prime))
                whole = all_times([atom for atom, k in lots.items() for _ in range(k)])
                if whole[-1][0] > 60:
                    continue
                number, place = rng.randint(1, prime - 1), rng.randint(-GREAT, GREAT)
                row = tuple((p, w * number + prime * rng.randint(-9, 9)) for p, w in along(whole, place))
                row = tuple((p, w) for p, w in row if w)
                self.assertEqual(parted_modulo(row, prime), (number, place, tuple(sorted(lots.items()))))

    def test_great_primes(self):
        rng = dice(33)
        for prime in (499, 991, 997):
            squares = {k * k % prime for k in range(prime)}
            lines = [((0, rng.randint(1, prime - 1)), (1, 1)) for _ in range(12)]
            bends = []
            while len(bends) < 8:
                a, b = rng.randint(0, prime - 1), rng.randint(1, prime - 1)
                if (a * a - 4 * b) % prime not in squares:
                    bends.append(tuple((p, w) for p, w in ((0, b), (1, a), (2, 1)) if w))
            lots = {}
            for atom in lines + bends + lines[:1] * 2 + bends[:1]:
                lots[atom] = lots.get(atom, 0) + 1
            row = by_number(all_times([atom for atom, k in lots.items() for _ in range(k)]), 5)
            self.assertEqual(parted_modulo(row, prime), (5, 0, tuple(sorted(lots.items()))))
        self.assertEqual(parted_modulo(((0, -1), (58, 1)), 59)[2],
                         tuple((((0, k), (1, 1)), 1) for k in range(1, 59)))
        self.assertEqual(parted_modulo(((0, 1), (59, 1)), 59), (1, 0, ((((0, 1), (1, 1)), 59),)))
        self.assertEqual(parted_modulo(((0, 1), (32, 1)), 2), (1, 0, ((((0, 1), (1, 1)), 32),)))

    def test_numbers_alone(self):
        self.assertIsNone(parted_modulo((), 2))
        self.assertIsNone(parted_modulo(((4, 6), (9, -9)), 3))
        self.assertEqual(parted_modulo(((4, -1),), 3), (2, 4, ()))
        self.assertEqual(parted_modulo(((-4, 3), (2, 5), (7, 6)), 3), (2, 2, ()))
        self.assertEqual(parted_modulo(((0, 3), (60, 1)), 3), (1, 60, ()))

    def test_serves_and_degrees(self):
        rng = dice(34)
        primes = [2, 3, 5, 7, 11, 13, 997]
        for _ in range(60):
            core = tuple((p, w) for p, w in ((p, rng.randint(-9, 9)) for p in range(rng.randint(1, 9))) if w)
            core = ((0, rng.choice((1, 2, 3, -6))),) + tuple(pair for pair in core if pair[0]) + ((9, 1),)
            core = times(core, rng.choice((ONE, UP, times(UP, UP))))
            for prime in primes:
                number, place, atoms = parted_modulo(core, prime)
                ends = core[0][1] % prime and core[-1][1] % prime
                often = [k for _, k in atoms]
                self.assertIs(serves(core, prime), bool(ends) and max(often) == 1)
                told = tuple(sorted(atom[-1][0] for atom, k in atoms for _ in range(k)))
                self.assertEqual(degrees(core, prime), told if ends else None)
        self.assertIs(serves(((0, 3), (1, 1)), 3), False)
        self.assertIs(serves(((0, 1), (1, 3)), 3), False)
        self.assertIs(serves(core=((0, 1), (1, 3)), prime=2), True)
        self.assertIsNone(degrees(core=((0, 1), (1, 3)), prime=3))
        for prime in small_primes(997):
            self.assertIs(serves(times(UP, UP), prime), False)
            self.assertIs(serves(FOUR, prime), prime != 2)
            self.assertTrue(max(degrees(FOUR, prime)) < 3)
        for prime in (13, 499, 997):
            told = degrees(square_roots((2, 3, 5, 7, 11)), prime)
            self.assertEqual((sum(told), max(told)), (32, 2))
        self.assertEqual(degrees(all_times([UP] * 60), 2), (1,) * 60)


class Lifted(unittest.TestCase):
    def holds(self, core, prime, often):
        told = lifted(core, prime, often)
        modulus = prime ** often
        atoms = parted_modulo(core, prime)[2]
        self.assertEqual(tuple(rest(row, prime) for row in told), tuple(atom for atom, _ in atoms))
        for row in told:
            self.assertEqual((row[0][0], row[-1][1]), (0, 1))
            self.assertTrue(all(0 < weight < modulus for _, weight in row))
        self.assertEqual(rest(by_number(all_times(told), core[-1][1]), modulus), rest(core, modulus))
        return told

    def test_lifted(self):
        rng = dice(35)
        done = 0
        while done < 30:
            parts = [some_row(rng, 4, 5, rng.choice((3, 10 ** 20))) for _ in range(3)]
            core = all_times(parts)
            core = along(by_number(core, 1 if core[-1][1] > 0 else -1), -core[0][0])
            prime = rng.choice((2, 3, 5, 7, 101, 997))
            try:
                served = serves(core, prime)
            except NotCore:
                continue
            if not served:
                self.assertIsNone(lifted(core, prime, 3))
                continue
            done += 1
            last = self.holds(core, prime, 24)
            for often in (1, 2, 3, 7, 16):
                told = self.holds(core, prime, often)
                self.assertEqual(told, tuple(rest(row, prime ** often) for row in last))

    def test_greater_ones(self):
        self.assertEqual(len(self.holds(((0, -1), (58, 1)), 59, 24)), 58)
        self.assertEqual(len(self.holds(square_roots((2, 3, 5, 7)), 997, 24)), 8)
        rng = dice(36)
        great = tuple((p, rng.randint(1, GREAT)) for p in range(60)) + ((60, 1),)
        self.assertEqual(len([p for p in small_primes(60) if serves(great, p) and self.holds(great, p, 24)]) > 5, True)

    def test_one_part(self):
        self.assertEqual(lifted(((0, 2), (1, 3)), 5, 1), (((0, 4), (1, 1)),))
        self.assertEqual(lifted(core=((0, 2), (1, 3)), prime=5, times=2), (((0, 9), (1, 1)),))
        self.assertEqual(lifted(((0, 1), (1, 1), (4, 1)), 2, 3), (((0, 1), (1, 1), (4, 1)),))
        self.assertIsNone(lifted(((0, 5), (1, 3)), 5, 1))
        self.assertIsNone(lifted(moved_letter(FOUR, 1), 2, 24))


class Refusals(unittest.TestCase):
    def test_rows_and_primes(self):
        for call in (modulo, parted_modulo):
            refuses_wrong_rows(self, InvalidRow, lambda value, call=call: call(value, None))
            for value in NO_PRIMES:
                wanted(self, InvalidNumber, lambda call=call, value=value: call((), value), given=value)
                wanted(self, InvalidNumber, lambda call=call, value=value: call(LONG, value), given=value)
        wanted(self, TooLong, lambda: parted_modulo(LONG, 2))
        wanted(self, TooLong, lambda: parted_modulo(((0, 2), (61, 2)), 2))
        wanted(self, TooLong, lambda: parted_modulo(((0, 1), (61, 2)), 2))
        self.assertEqual(modulo(LONG, 2), LONG)

    def test_cores(self):
        calls = (serves, degrees, lambda core, prime: lifted(core, prime, 1))
        for call in calls:
            refuses_wrong_rows(self, InvalidRow, lambda value, call=call: call(value, None))
            for core in NO_CORES:
                wanted(self, NotCore, lambda call=call, core=core: call(core, None), given=core)
            for value in NO_PRIMES:
                wanted(self, InvalidNumber, lambda call=call, value=value: call(LONG, value), given=value)
            for core in (LONG, ((0, 5), (GREAT, 1))):
                wanted(self, TooLong, lambda call=call, core=core: call(core, 5))
            call(((0, 1), (60, 1)), 5)

    def test_times(self):
        for value in (None, True, False, 0, -1, 25, GREAT, "1", (1,), [], Odd(), nested(20)):
            wanted(self, InvalidNumber, lambda value=value: lifted(LONG, 2, value), given=value)
            wanted(self, InvalidNumber, lambda value=value: lifted(UP, 4, value), given=4)
        wanted(self, TooLong, lambda: lifted(LONG, 2, 1))


if __name__ == "__main__":
    unittest.main()
