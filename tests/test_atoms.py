"""[C4], [C6], [C7] and atoms.py."""

import unittest
from math import gcd

from samegaps.atoms import atom_paper, is_alike_both_ways, middle_of, mirror_of, pairs_of, ring_atom, shows_atom
from samegaps.errors import InvalidNumber, InvalidRow, NotCore, NotNow, TooLong
from samegaps.factors import is_atom, parted
from samegaps.primes import degrees
from samples import GREAT, NOT_TUPLES, Odd, all_times, along, back, by_number, dice, moved_letter, nested
from samples import refuses_wrong_rows, small_primes, some_row, square_roots, times, wanted

ONE = ((0, 1),)
DOWN = ((0, -1), (1, 1))
UP = ((0, 1), (1, 1))
FOUR = ((0, 1), (4, 1))
FIVE = ((0, 1), (1, 1), (4, 1))
LONG = ((0, 1), (1, 1), (61, 1))
NO_CORES = [(), ONE, ((0, 2), (1, 2)), ((1, 1), (2, 1)), ((-1, 1), (0, 1)), ((0, 1), (1, -1)), ((5, 3),)]
NO_PAPERS = NOT_TUPLES + [
    (None,), ((),), (1, 2), (1, 2, 3), ("primes",), ("step",), ("primes", ()), ("primes", 2), ("primes", [2]),
    ("primes", {2}), ("primes", (2, 2)), ("primes", (2, 4)), ("primes", (2, 1)), ("primes", (2, True)),
    ("primes", (2, 1009)), ("primes", (2, None)), ("primes", (2, (3,))), ("primes", (2, [3])), ("primes", "2"),
    ("primes", (2, 3, 5, 7, 11, 13, 17, 19, 23)), ("primes", (2,), ()), ("step", (2,)), ("step", 4), ("step", 1),
    ("step", True), ("step", None), ("step", -2), ("step", 1009), ("step", [2]), ("step", 2, 2), ("Primes", (2,)),
    ("prime", (2,)), (b"primes", (2,)), (None, (2,)), ((2,), "primes"), ("", 2), ["primes", (2,)], ["step", 2],
    nested(20), ("primes", nested(18)), ("step", nested(18)), (Odd(), Odd()), ("primes", Odd()),
]


class Examples(unittest.TestCase):
    def test_of_the_document(self):
        four = FOUR
        self.assertEqual([shows_atom(((0, 1), (1, 1), (4, 1)), ("primes", (2,))), shows_atom(four, ("primes", (5, 3))),
                          shows_atom(four, ()), shows_atom(((0, 2), (1, 4), (3, 1)), ("step", 2)),
                          shows_atom(((0, 1), (2, 4), (3, 2)), ("step", 2))], [True, False, True, True, True])
        self.assertEqual([atom_paper(((0, 4), (4, 1))), shows_atom(four, atom_paper(four)),
                          mirror_of(((0, -2), (1, 1))), is_alike_both_ways(((0, 1), (1, 3), (2, 1)))],
                         [None, True, ((0, -1), (1, 2)), True])
        self.assertEqual(pairs_of(((0, 2), (1, 7), (2, 3))),
                         ((((0, 1), (1, 2)), ((0, 2), (1, 1)), 0, 1), (((0, 1), (1, 3)), ((0, 3), (1, 1)), 1, 0)))
        self.assertEqual([middle_of(((0, 2), (1, 2))), middle_of(((0, 2), (1, 7), (2, 3))), ring_atom(1), ring_atom(6)],
                         [((((0, 1), (1, 1)), 1),), (), ((0, -1), (1, 1)), ((0, 1), (1, -1), (2, 1))])


class Papers(unittest.TestCase):
    def sums(self, told):
        """The sums of some of the numbers."""
        found = {0}
        for number in told:
            found = found | {number + one for one in found}
        return found

    def test_of_primes(self):
        rng = dice(41)
        right = 0
        for _ in range(150):
            spread = rng.randint(2, 7)
            middle = tuple((p, rng.randint(-3, 3)) for p in range(1, spread))
            core = ((0, rng.choice((1, -1, 2, 3))),) + tuple(pair for pair in middle if pair[1]) + ((spread, 1),)
            primes = tuple(rng.sample(small_primes(40), rng.randint(1, 4)))
            shared = set(range(spread + 1))
            for prime in primes:
                told = degrees(core, prime)
                shared = shared & self.sums(told) if told is not None else shared
            self.assertIs(shows_atom(core, ("primes", primes)), shared == {0, spread})
            right += shared == {0, spread}
            if shared == {0, spread}:
                self.assertIs(is_atom(core), True)
        self.assertTrue(20 < right < 130)

    def test_more_of_primes(self):
        self.assertIs(shows_atom(((0, 6), (1, 35)), ("primes", (2,))), True)
        self.assertIs(shows_atom(((0, 6), (1, 35)), ("primes", (2, 3, 5, 7, 11, 13, 17, 997))), True)
        self.assertIs(shows_atom(((0, 2), (2, 1)), ("primes", (2,))), False)
        self.assertIs(shows_atom(((0, 2), (2, 1)), ("primes", (2, 5))), True)
        self.assertIs(shows_atom(((0, 2), (2, 1)), ("primes", (3,))), False)
        self.assertIs(shows_atom(times(FIVE, FIVE), ("primes", (2,))), False)
        self.assertIs(shows_atom(FOUR, ("primes", tuple(small_primes(19)))), False)
        # 1 and 3 by one prime, 2 and 2 by the other one: 0 and 4 alone are in common.
        core = ((0, 12), (1, 8), (4, 1))
        by = {prime: degrees(core, prime) for prime in small_primes(60)}
        one = [prime for prime, told in by.items() if told == (1, 3)][0]
        two = [prime for prime, told in by.items() if told == (2, 2)][0]
        self.assertNotIn((4,), by.values())
        self.assertIs(shows_atom(core, ("primes", (two, one))), True)
        self.assertIs(shows_atom(core, ("primes", (one, 2, two, 3))), True)
        self.assertIs(shows_atom(core, ("primes", (one, 2))), False)
        self.assertIs(shows_atom(core, ("primes", (two, 3))), False)

    def test_of_steps(self):
        for core, prime, is_shown in (
                (((0, 2), (1, 1)), 2, True), (((0, 4), (1, 1)), 2, False), (((0, 1), (1, 4)), 2, False),
                (((0, 1), (1, 6)), 3, True), (((0, -6), (2, 9), (5, 4)), 3, True),
                (((0, -6), (2, 9), (5, 4)), 2, False), (((0, 9), (2, 3), (5, 1)), 3, False),
                (((0, 3), (2, 1), (5, 1)), 3, False), (((0, 1), (3, 6), (4, 12)), 3, True),
                (((0, 1), (3, 6), (4, 12)), 2, False), (((0, 997), (60, 1)), 997, True), (FOUR, 2, False),
                (((0, 997 * 10 ** 390), (9, 997), (60, 1)), 997, True), (((0, 2), (1, 1), (2, 2)), 2, False)):
            self.assertIs(shows_atom(core, ("step", prime)), is_shown)
            if is_shown:
                self.assertIs(is_atom(core), True)

    def test_of_nothing(self):
        for core in (UP, FOUR, FIVE, square_roots((2, 3, 5))):
            self.assertIs(shows_atom(core, ()), True)
        for core in (times(UP, UP), times(UP, FOUR), ((0, 4), (4, 1)), ((0, -1), (60, 1))):
            for paper in ((), ("step", 2), ("primes", (2, 3, 5, 7, 11, 13, 17, 19))):
                self.assertIs(shows_atom(core, paper), False)

    def test_no_papers(self):
        for core in (UP, FOUR, times(UP, UP)):
            for value in NO_PAPERS:
                self.assertIs(shows_atom(core, value), False)

    def test_atom_paper(self):
        rng = dice(42)
        cores = [UP, DOWN, FOUR, FIVE, ((0, 2), (1, 4), (3, 1)), square_roots((2, 3)), square_roots((2, 3, 5, 7)),
                 ((0, 1), (60, 2)), ((0, GREAT), (1, 1)), moved_letter(FOUR, -2), ring_atom(60), ring_atom(59)]
        for _ in range(40):
            parts = [some_row(rng, 4, 6, rng.choice((2, 9, 10 ** 30))) for _ in range(rng.choice((1, 1, 2)))]
            row = all_times(parts)
            told = parted(row)[3]
            cores.extend([atom for atom, _ in told])
            if len(told) > 1:
                cores.append(times(told[0][0], told[1][0]))
        shown = set()
        for core in cores:
            paper = atom_paper(core)
            self.assertEqual(paper is not None, is_atom(core))
            if paper is not None:
                self.assertIs(shows_atom(core, paper), True)
                shown.add(paper[:1])
        self.assertEqual(shown, {("primes",), ("step",), ()})
        self.assertIsNone(atom_paper(core=((0, 4), (4, 1))))


class Mirrors(unittest.TestCase):
    def test_mirror_of(self):
        rng = dice(43)
        for _ in range(60):
            row = some_row(rng, rng.randint(2, 6), 90, rng.choice((2, GREAT)))
            sign = 1 if row[-1][1] > 0 else -1
            core = along(by_number(row, sign), -row[0][0])
            if gcd(*[w for _, w in core]) > 1:
                continue
            far = mirror_of(core)
            turned = along(back(core), core[-1][0])
            self.assertEqual(far, turned if turned[-1][1] > 0 else by_number(turned, -1))
            self.assertEqual(mirror_of(far), core)
            self.assertIs(is_alike_both_ways(core), far == core)
        for core in (DOWN, UP, FOUR, ((0, 2), (3, -5), (6, 2)), ((0, -1), (7, 1)), times(DOWN, FOUR)):
            self.assertIs(is_alike_both_ways(core), True)
        for core in (((0, 1), (1, 2)), FIVE, ((0, -1), (1, 1), (2, 1)), LONG):
            self.assertIs(is_alike_both_ways(core), False)
        self.assertEqual(mirror_of(LONG), ((0, 1), (60, 1), (61, 1)))
        self.assertEqual(mirror_of(core=((0, -3), (1, 2))), ((0, -2), (1, 3)))

    def test_pairs_and_middles(self):
        rng = dice(44)
        left = [((0, 1), (1, 2)), ((0, -2), (1, 3)), FIVE, ((0, 2), (1, 4), (3, 1)), ((0, 1), (1, 10 ** 50))]
        middle = [DOWN, UP, FOUR, ((0, 1), (1, 1), (2, 1)), ((0, 2), (1, 5 ** 30), (2, 2))]
        for _ in range(40):
            lots = {}
            for atom in rng.sample(left + [mirror_of(one) for one in left], 3) + rng.sample(middle, 2):
                lots[atom] = rng.randint(1, 3)
            row = all_times([atom for atom, often in lots.items() for _ in range(often)])
            row = along(by_number(row, rng.choice((-1, 6, GREAT))), rng.randint(-9, 9))
            self.assertEqual(middle_of(row), tuple(sorted((a, k) for a, k in lots.items() if a in middle)))
            told = []
            for one in left:
                low, high = min(one, mirror_of(one)), max(one, mirror_of(one))
                if low in lots or high in lots:
                    told.append((low, high, lots.get(low, 0), lots.get(high, 0)))
            self.assertEqual(pairs_of(row), tuple(sorted(told)))
        for row in (ONE, ((4, -6),), ((0, 3), (1, 3))):
            self.assertEqual(pairs_of(row), ())
        self.assertEqual(middle_of(row=((4, -6),)), ())
        self.assertEqual(pairs_of(row=((0, 1), (1, 2))), ((((0, 1), (1, 2)), ((0, 2), (1, 1)), 1, 0),))


class Rings(unittest.TestCase):
    def test_ring_atoms(self):
        for number in range(1, 61):
            atom = ring_atom(number)
            self.assertEqual(atom[-1][0], len([k for k in range(1, number + 1) if gcd(k, number) == 1]))
            lesser = [ring_atom(k) for k in range(1, number + 1) if number % k == 0]
            self.assertEqual(all_times(lesser), ((0, -1), (number, 1)))
            self.assertIs(is_alike_both_ways(atom), True)
            self.assertIs(is_atom(atom), True)
        self.assertEqual(ring_atom(number=2), UP)
        for many, step in ((6, 4), (5, 12), (30, 2)):
            parts = [ring_atom(k) for k in range(1, many * step + 1) if (many * step) % k == 0 and step % k]
            self.assertEqual(all_times(parts), tuple((step * k, 1) for k in range(many)))

    def test_refusals(self):
        for value in (None, True, False, 0, -1, 61, GREAT, "1", (1,), [], {}, Odd(), nested(20)):
            wanted(self, InvalidNumber, lambda value=value: ring_atom(value), given=value)


class Refusals(unittest.TestCase):
    def test_cores(self):
        calls = (lambda core: shows_atom(core, None), lambda core: shows_atom(core, ()), atom_paper, mirror_of,
                 is_alike_both_ways)
        for call in calls:
            refuses_wrong_rows(self, InvalidRow, call)
            for core in NO_CORES:
                wanted(self, NotCore, lambda call=call, core=core: call(core), given=core)
        for core in (LONG, ((0, -1), (61, 1)), ((0, 1), (GREAT, 1))):
            for call in calls[:3]:
                wanted(self, TooLong, lambda call=call, core=core: call(core))
            for call in calls[3:]:
                call(core)

    def test_rows(self):
        for call in (pairs_of, middle_of):
            refuses_wrong_rows(self, InvalidRow, call)
            wanted(self, NotNow, lambda call=call: call(()))
            wanted(self, TooLong, lambda call=call: call(along(LONG, -30)))


if __name__ == "__main__":
    unittest.main()
