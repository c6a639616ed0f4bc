"""[H1] and claims.py."""

import unittest

from claimjudge import BACK, OPPOSITES, bends, is_claim_by_words, opposite_of, plain
from claimsamples import CUBES, FLAT, ONE, PARTS, TWO, UP, claims_of
from samegaps.claims import is_claim, opposite
from samegaps.errors import InvalidClaim
from samples import CORNER, FOUR_HUNDRED, GREAT, HOOK, MIXED, NOT_TUPLES, Odd, RULER, WRONG_LOTS, WRONG_MARKS
from samples import WRONG_POINTS, WRONG_ROWS, Yes, along, along_points, by_number, dice, nested, prime_marks, wanted

NO_CLAIMS = NOT_TUPLES + [(), ("same",), ("same", ONE), ("same", ONE, TWO, TWO), ("Same", ONE, TWO), ("", ONE, TWO),
                          (b"same", ONE, TWO), (ONE, "same", TWO), ("same ", ONE, TWO), ("divides  not", ONE, TWO), (None, ONE, TWO),
                          (Yes(), ONE, TWO), (["same"], ONE, TWO), ({}, ONE, TWO), (0, ONE, TWO), ("heap",), ("unlikely", ONE, TWO),
                          ("not same", ONE, TWO), ("not whole", UP), nested(20), (nested(19),), ("same", nested(19), ONE)]
LONGEST = ((0, 1), (60, 1))
TOO_LONG = ((0, 1), (61, 1))
NINE = tuple((p, 1) for p in range(9))


def heaps(many):
    """So many heaps of two marks, ascending."""
    return tuple(((0, 1), (p, 1)) for p in range(1, many + 1))


class Examples(unittest.TestCase):
    def test_of_the_document(self):
        self.assertEqual([is_claim(("same", ONE, TWO)), is_claim(("same", ONE, ())), is_claim(("whole", ((0, 2), (1, 4)))),
                          opposite(("ruler", (0, 1, 3))), is_claim(("shortest", (0, 1, 2)))],
                         [True, False, False, ("no ruler", (0, 1, 3)), False])


class Kinds(unittest.TestCase):
    def both(self, told, word, *parts):
        """The claim and its opposite are claims, or none."""
        for name in (word, OPPOSITES[word]):
            self.assertIs(is_claim((name, *parts)), told, (name, parts))
            self.assertIs(is_claim_by_words((name, *parts)), told, (name, parts))
            self.assertIs(is_claim(value=[name, *parts]), False)
            self.assertIs(is_claim((name, *parts[:-1])), False)
            self.assertIs(is_claim((name, *parts, parts[-1])), False)
            self.assertIs(is_claim((name, *parts, ())), False)

    def no_rows(self, word, *parts):
        """What is no ROW, and (), in the place of each ROW."""
        for at in range(len(parts)):
            for value in [value for value, _ in WRONG_ROWS] + [()]:
                self.both(False, word, *parts[:at], value, *parts[at + 1:])

    def test_two_rows(self):
        for word in ("same", "divides"):
            for one, other in ((ONE, TWO), (MIXED, ((GREAT, -GREAT),)), (UP, UP), (LONGEST, LONGEST), (along(LONGEST, 3, GREAT),) * 2,
                               (tuple((p, p + 1) for p in range(61)), UP), (along(UP, 0, 60 * GREAT), along(UP, 7, GREAT)),
                               (((0, 1),), along(LONGEST, 0, 10 ** 50)), (along(UP, 0, 61), along(UP, 0, 61 * 60))):
                self.both(True, word, one, other)
                self.both(True, word, other, one)
            for one, other in ((TOO_LONG, UP), (along(UP, 0, 60 * GREAT + 1), along(UP, 7, GREAT)), (FOUR_HUNDRED, UP),
                               (((0, 1), (1, 1), (61, 1)),) * 2, (along(LONGEST, 0, 2), along(UP, 5, 7)),
                               (((0, 1), (1, 1), (61, 1)), ((0, 1),))):
                self.both(False, word, one, other)
                self.both(False, word, other, one)
            self.no_rows(word, ONE, TWO)

    def test_three_rows(self):
        step = along(LONGEST, 0, 2)
        for parts in ((FLAT, CUBES, UP), (ONE, TWO, ((0, 5),)), (step, step, along(LONGEST, 0, 2)), (step, step, ((0, 7),)),
                      (MIXED, MIXED, MIXED[:1] and ((0, -1), (4, 2))), (step, along(UP, 9, 8), ((0, 1), (120, 1))),
                      (UP, UP, LONGEST), (((5, -2),), ((0, 1),), ((0, GREAT),))):
            self.both(True, "common", *parts)
        for parts in ((step, step, UP), (step, UP, ((0, 1),)), (UP, step, ((0, 1),)), (UP, UP, TOO_LONG),
                      (FLAT, CUBES, along(UP, 1)), (FLAT, CUBES, along(UP, -1)), (FLAT, CUBES, by_number(UP, -1)),
                      (FLAT, CUBES, FLAT), (FLAT, CUBES, ((0, -1),)), (FLAT, CUBES, ((1, 1),)),
                      (step, step, ((0, 1), (121, 1)))):
            self.both(False, "common", *parts)
        self.no_rows("common", FLAT, CUBES, UP)

    def test_bare_ones(self):
        for row in (UP, LONGEST, RULER, ((0, -1), (1, 1)), ((0, -GREAT), (7, 2)), ((0, 2), (1, -4), (60, 1))):
            self.both(True, "whole", row)
        for row in (((0, 1),), ((0, 2),), ((0, 2), (1, 4)), ((0, 1), (1, -1)), ((1, 1), (2, 1)), ((-1, 1), (0, 1)), TOO_LONG,
                    ((0, GREAT), (1, GREAT)), ((0, 3), (1, 3), (4, 9)), MIXED, ((3, 1),)):
            self.both(False, "whole", row)
        self.no_rows("whole", UP)

    def test_long_ones(self):
        for word in ("only", "somebody"):
            for row in (((5, -3),), LONGEST, along(LONGEST, -GREAT), MIXED, by_number(ONE, -GREAT), tuple((p, 2) for p in range(61))):
                self.both(True, word, row)
            for row in (TOO_LONG, along(TOO_LONG, 9), along(UP, 0, 61), FOUR_HUNDRED, ((0, 1), (30, 2), (61, 1)), ((0, 1), (GREAT, 1))):
                self.both(False, word, row)
            self.no_rows(word, UP)

    def test_lengths_and_heaps(self):
        for lengths in ((), (0,), (GREAT,), (1, 3, 4), (5, 5, 5), (0,) * 36, tuple(range(10)), tuple(range(36))):
            for told in ((), (RULER,), (((0, 1),),), heaps(200), (((0, 1),), ((0, 9),)), (((0, 8), (GREAT, 1)), NINE[:1] + ((5, 8),))):
                self.both(told != (((0, 8), (GREAT, 1)), NINE[:1] + ((5, 8),)), "all heaps", lengths, told)
        for many in range(50):
            self.both(many in (0, 1, 3, 6, 10, 15, 21, 28, 36), "all heaps", (7,) * many, (RULER,))
        for lengths in ((-1,), (True,), (3, 1, 4), (1, 2, None), (0, 0, False), [1], None, "", (1, 3, 4, 4), 5, (0,) * 45):
            self.both(False, "all heaps", lengths, ())
        two, three = ((0, 1), (2, 1)), ((0, 1), (3, 1))
        self.both(True, "all heaps", (3,), (two, three, ((0, 2),)))
        for told in ((three, two), (two, two), (two, three, three), (along(two, 1),), (along(two, -1),), ((),), ((), two), ((0, 1),),
                     (((0, 10),),), (((0, 9), (1, 1)),), (tuple((p, 1) for p in range(10)),), heaps(201), [two], None, two, 5, "",
                     (((0, 1), (2, -1)),), (((0, 1), (2, 0)),), (((0, True),),), (((False, 1),),), (two, None), (two, [three]),
                     (((0, 1), (2, 1), (1, 1)),), (((0, 2), (1, -1)),)):
            self.both(False, "all heaps", (3,), told)
        self.both(True, "all heaps", (3,), (NINE,))

    def test_marks(self):
        for marks in ((), (0,), (-GREAT, GREAT), (0, 1, 2), tuple(range(60)), prime_marks(59)):
            self.both(True, "ruler", marks)
        for marks, _ in WRONG_MARKS:
            self.both(False, "ruler", marks)
            self.both(False, "shortest", marks)
        for ruler in ((0,), (-GREAT,), (0, GREAT), (3, 4), (0, 1, 4, 9, 11), (0, 1, 4, 10, 12, 17), (-30, 0, 1, 3, 9, 500)):
            self.both(True, "shortest", ruler)
        for ruler in ((), (0, 1, 2), (0, 1, 3, 7, 12, 20, 30), prime_marks(7), (0, 1, 2, 3, 4, 5), (0, 5, 10), prime_marks(59),
                      (0, 1, 4, 10, 12, 17, 25), (0, 1, 4, 5)):
            self.both(False, "shortest", ruler)

    def test_rings(self):
        for word in ("same round", "alike round"):
            for n in range(1, 61):
                self.both(True, word, n, (), tuple(range(n)))
                self.both(True, word, n, (n - 1,), (0,))
                self.both(False, word, n, (n,), (0,))
                self.both(False, word, n, (0,), (-1,))
            for n in (0, -1, 61, GREAT, None, True, "8", (8,), [8], 8 + 0j, b"8", Odd(), Yes()):
                self.both(False, word, n, (), ())
                self.both(False, word, n, (0,), (0,))
            for lot, _ in WRONG_LOTS:
                self.both(False, word, 8, lot, (0, 1))
                self.both(False, word, 8, (0, 1), lot)

    def test_points(self):
        line = (((0, 0), 1), ((12, 12), 1))
        cube = (((0, 0, 0), 1), ((4, 4, 4), 2))
        for one, other in ((CORNER, HOOK), (line, CORNER), (cube, cube), (along_points(line, (GREAT, -GREAT)), line),
                           ((((0, 0, 0), GREAT),), cube), ((((7, -7), 1),), (((0, 0), 1),))):
            self.both(True, "same points", one, other)
            self.both(True, "same points", other, one)
        for one, other in ((CORNER, cube), (CORNER, ()), ((), CORNER), ((), ()), (CORNER, (((0, 0), 1), ((13, 0), 1))),
                           (CORNER, (((0, 0), 1), ((0, 13), 1))), (cube, (((0, 0, 0), 1), ((0, 0, 5), 1))),
                           (cube, (((0, 0, 0), 1), ((0, 5, 0), 1))), (cube, (((0, 0, 0), 1), ((5, 0, 0), 1))),
                           (CORNER, (((0, 0), -1),)), (CORNER, (((0, 0), 1), ((0, 1), -1))), (cube, (((0, 0, 0), 1), ((1, 1, 1), -2))),
                           (CORNER, (((0, 13), 1), ((1, 0), 1)))):
            self.both(False, "same points", one, other)
            self.both(False, "same points", other, one)
        for points, _ in WRONG_POINTS:
            self.both(False, "same points", CORNER, points)
            self.both(False, "same points", points, CORNER)
        self.assertEqual(set(PARTS), set(OPPOSITES))


class Bent(unittest.TestCase):
    def test_each_thing_in_a_claim(self):
        rng = dice(191)
        kept = 0
        for word in PARTS:
            found = claims_of(word)
            for claim in found[:12] + rng.sample(found, min(8, len(found))):
                for one in (claim, opposite_of(claim)):
                    self.assertIs(is_claim(one), True)
                    self.assertIs(is_claim_by_words(one), True)
                    self.assertEqual(opposite(one), opposite_of(one))
                    self.assertEqual(opposite(opposite(one)), one)
                bent = list(bends(claim))
                for other in bent[::max(1, len(bent) // 200)]:
                    told = is_claim(other)
                    self.assertIs(told, is_claim_by_words(other), other)
                    kept += told
        self.assertTrue(kept > 300, kept)

    def test_values_of_any_kind(self):
        for value in NO_CLAIMS:
            self.assertIs(is_claim(value), False)
            wanted(self, InvalidClaim, lambda value=value: opposite(value), given=value)
        for word in PARTS:
            claim = claims_of(word)[0]
            for at in range(1, len(claim)):
                for value in NOT_TUPLES + [Yes(), (Yes(),), (Yes(), Yes()), ((Yes(), 1),), ((0, Yes()),), nested(19), (None,)]:
                    bent = claim[:at] + (value,) + claim[at + 1:]
                    told = is_claim_by_words(bent)
                    self.assertIs(is_claim(bent), told)
                    if not told:
                        wanted(self, InvalidClaim, lambda bent=bent: opposite(bent), given=bent)

    def test_opposites(self):
        for word, other in {**OPPOSITES, **BACK}.items():
            for claim in claims_of(BACK.get(word, word))[:4]:
                parts = claim[1:]
                self.assertEqual(opposite((word, *parts)), (other, *parts))
                self.assertEqual(opposite(claim=(other, *parts)), (word, *parts))
                self.assertEqual(plain(opposite((word, *parts))), plain((other, *parts)))
        self.assertEqual(len({**OPPOSITES, **BACK}), 24)


if __name__ == "__main__":
    unittest.main()
