"""[H2], [H3] and certificates.py."""

import unittest
from itertools import combinations_with_replacement, product
from math import gcd

from bookmodel import gaps, root
from claimjudge import LEAST, OPPOSITES, between, greatest, is_paper, opposite_of, over, points_gaps, turned
from claimsamples import CUBES, FAR, FLAT, LONG, MIDDLE, ONE, PARTS, TURNING, TWO, UP, claims_of
from samegaps.certificates import paper_for, settled
from samegaps.checker import accepts
from samegaps.errors import InvalidClaim
from samegaps.factors import is_atom
from samegaps.gaps import have_same
from samegaps.toldback import all_rows, row_with
from samegaps.trees import heaps_of
from samples import CORNER, GREAT, HOOK, NOT_TUPLES, RULER, all_times, along, apart_round, are_ruler, back, back_points, by_number
from samples import dice, nested, plus, prime_marks, some_row, times, times_points, wanted


def is_so(claim):
    """Whether a claim with the first word of both is true, told without papers."""
    word, parts = claim[0], claim[1:]
    if word == "same":
        return gaps(parts[0]) == gaps(parts[1])
    if word == "divides":
        return over(parts[1], parts[0]) is not None
    if word == "common":
        return greatest(parts[0], parts[1]) == parts[2]
    if word == "whole":
        return is_atom(parts[0])
    if word == "only":
        return all(told in (root(parts[0]), root(back(parts[0]))) for told in all_rows(parts[0]))
    if word == "somebody":
        return row_with(parts[0]) is not None
    if word == "all heaps":
        return heaps_of(parts[0]) == parts[1]
    if word == "ruler":
        return are_ruler(parts[0])
    if word == "shortest":
        return parts[0][-1] - parts[0][0] == LEAST[len(parts[0])]
    if word == "same points":
        return points_gaps(parts[0]) == points_gaps(parts[1])
    n, lot, mate = parts
    if word == "same round":
        return apart_round(n, lot) == apart_round(n, mate)
    return any(turned(n, lot, turn, sign) == mate for turn in range(n) for sign in (1, -1))


class Examples(unittest.TestCase):
    def test_of_the_document(self):
        self.assertEqual([settled(("divides", UP, FLAT)), paper_for(("divides", FLAT, CUBES))],
                         [(("divides", ((0, 1), (1, 1)), ((0, 1), (2, -1))), ((0, 1), (1, -1))), None])
        self.assertEqual(settled(("all heaps", (1, 3, 4), ()))[0][0], "other heaps")
        self.assertEqual(settled(("only", ((0, 1), (1, 2))))[0][0], "only")
        self.assertEqual([settled(("same round", 8, (0, 1, 3, 4), (2, 5, 6, 7))),
                          paper_for(("nobody", ((-1, 6), (0, 13), (1, 6))))],
                         [(("same round", 8, (0, 1, 3, 4), (2, 5, 6, 7)), ()), None])
        self.assertEqual(paper_for(claim=("ruler", (0, 1, 3))), ())
        self.assertEqual(settled(claim=("no ruler", (0, 1, 3))), (("ruler", (0, 1, 3)), ()))

    def test_by_hand(self):
        # 13 is 4 and 9, 6 is 2 times 3: the differences of 2 + 3 x.
        paper = paper_for(("somebody", ((-1, 6), (0, 13), (1, 6))))
        self.assertIn(root(paper), (((0, 2), (1, 3)), ((0, 3), (1, 2))))


class Both(unittest.TestCase):
    def one_of_both(self, claim, told):
        """Just one of the claim and its opposite has a paper: the claim, if told so, which the checker takes."""
        true, false = (claim, opposite_of(claim)) if told else (opposite_of(claim), claim)
        paper = paper_for(true)
        self.assertIsNotNone(paper, true)
        self.assertIsNone(paper_for(false))
        self.assertIs(accepts(true, paper), True, true)
        self.assertIs(accepts(false, paper), False)
        self.assertEqual(settled(claim), (true, paper))
        self.assertEqual(settled(opposite_of(claim)), (true, paper))
        return paper


class Papers(Both):
    def kind(self, word):
        kinds = []
        for claim in claims_of(word):
            told = is_so(claim)
            paper = self.one_of_both(claim, told)
            self.assertIs(is_paper(claim if told else opposite_of(claim), paper), True)
            kinds.append(told)
        self.assertEqual(set(kinds), {True, False})

    def test_claims_of_each_kind(self):
        for word in PARTS:
            with self.subTest(word=word):
                self.kind(word)
        self.assertEqual(set(PARTS), set(OPPOSITES))

    def test_all_small_rows(self):
        rows = [tuple((p, w) for p, w in enumerate(weights) if w) for weights in product(range(-1, 3), repeat=3)]
        rows = [row for row in rows if row]
        for at, one in enumerate(rows):
            for other in rows[at % 3::3]:
                self.one_of_both(("same", one, other), have_same(one, other))
                self.one_of_both(("divides", one, other), over(other, one) is not None)
                self.one_of_both(("common", one, other, root(one)), greatest(one, other) == root(one))
                self.one_of_both(("common", one, other, greatest(one, other)), True)

    def test_all_small_cores(self):
        # A core of a spread up to 3 is parted exactly if it has a factor of the spread 1, so a fraction where it is 0.
        for spread in (1, 2, 3):
            for weights in product(range(-3, 4), repeat=spread + 1):
                if weights[0] == 0 or weights[-1] < 1 or gcd(*weights) > 1:
                    continue
                core = tuple((p, w) for p, w in enumerate(weights) if w)
                noughts = any(sum(w * top ** p * under ** (spread - p) for p, w in core) == 0
                              for top in range(-3, 4) for under in (1, 2, 3))
                self.one_of_both(("whole", core), spread == 1 or not noughts)

    def test_all_small_differences(self):
        found = {}
        for weights in product(range(-3, 4), repeat=3):
            row = tuple((p, w) for p, w in enumerate(weights) if w)
            if weights[0]:
                found.setdefault(gaps(row), set()).add(root(row))
        for middle in range(-2, 15):
            for one in range(-4, 5):
                for two in range(-3, 4):
                    told = tuple((p, w) for p, w in zip(range(-2, 3), (two, one, middle, one, two)) if w)
                    # The squared weights sum up to less than 15, so no weight is above 3.
                    if told:
                        self.one_of_both(("somebody", told), told in found)
        for told, rows in found.items():
            for row in rows:
                if sum(w * w for _, w in row) < 16:
                    self.one_of_both(("only", row), all(other in (row, root(back(row))) for other in rows))

    def test_all_small_lengths(self):
        found = {}
        for marks in combinations_with_replacement(range(6), 3):
            heap = tuple((p, (0, *marks).count(p)) for p in sorted({0, *marks}))
            found.setdefault(between(heap), set()).add(heap)
        for lengths in combinations_with_replacement(range(5), 6):
            heaps = tuple(sorted(found.get(lengths, ())))
            self.one_of_both(("all heaps", lengths, heaps), True)
            if heaps:
                self.one_of_both(("all heaps", lengths, heaps[1:]), False)
                self.one_of_both(("all heaps", lengths, heaps[:-1]), False)
            self.one_of_both(("all heaps", lengths, tuple(sorted({*heaps, ((0, 2), (5, 2))}))), ((0, 2), (5, 2)) in heaps)


class AtTheBounds(Both):
    def test_steps_of_many_figures(self):
        rng = dice(201)
        for _ in range(12):
            u, v = some_row(rng, 4, 12, 3), some_row(rng, 4, 12, 3)
            row, other = [along(told, rng.choice((0, GREAT, -5)), GREAT) for told in (times(u, v), times(u, back(v)))]
            self.one_of_both(("same", row, by_number(other, rng.choice((1, -1)))), True)
            self.one_of_both(("same", row, plus(other, ((other[0][0], GREAT),))), False)
            self.one_of_both(("divides", along(u, 1, GREAT), row), True)
            self.one_of_both(("divides", along(u, 1, GREAT), plus(row, ((row[0][0], 1),)) or row), over(
                plus(times(u, v), ((times(u, v)[0][0], 1),)), u) is not None)
            divisor = greatest(row, other)
            self.one_of_both(("common", row, other, divisor), True)
            self.one_of_both(("common", row, other, root(times(divisor, along(UP, 0, GREAT)))), False)

    def test_longest_rows(self):
        rng = dice(202)
        sixty = tuple((p, rng.choice((1, 2, -1))) for p in range(61))
        thirty = [tuple((p, rng.choice((1, 3, -2))) for p in range(31)) for _ in range(2)]
        whole, far = times(*thirty), times(thirty[0], back(thirty[1]))
        self.one_of_both(("same", sixty, along(back(sixty), -GREAT)), True)
        self.one_of_both(("same", whole, far), True)
        self.one_of_both(("same", sixty, whole), False)
        self.one_of_both(("divides", thirty[0], whole), True)
        self.one_of_both(("divides", thirty[0], sixty), False)
        self.one_of_both(("common", whole, far, root(thirty[0])), greatest(whole, far) == root(thirty[0]))
        self.one_of_both(("common", whole, sixty, ((0, 1),)), True)
        self.one_of_both(("only", sixty), len(all_rows(sixty)) < 3)
        self.one_of_both(("only", tuple((p, 7) for p in range(61))), True)
        self.one_of_both(("only", times(ONE, ((0, 1), (50, 1)))), False)
        self.one_of_both(("somebody", gaps(thirty[0])), True)
        self.one_of_both(("somebody", plus(gaps(thirty[0]), ((0, 1),))), False)
        self.one_of_both(("somebody", ((-30, 1), (0, 1), (30, 1))), False)
        self.one_of_both(("whole", ((0, 2), (7, 4), (60, 1))), True)
        self.one_of_both(("whole", root(whole)), False)
        self.one_of_both(("whole", ((0, 1), (60, 1))), False)

    def test_contents_and_signs(self):
        for number in (-1, 6, -GREAT):
            self.one_of_both(("same", by_number(ONE, number), by_number(TWO, -number)), True)
            self.one_of_both(("same", by_number(ONE, number), by_number(TWO, number + 1) or UP), False)
            self.one_of_both(("divides", by_number(ONE, number), by_number(times(ONE, FLAT), 2 * number)), True)
            self.one_of_both(("divides", by_number(UP, 7 * number), by_number(FLAT, number)), False)
            self.one_of_both(("common", by_number(FLAT, number), by_number(CUBES, number), by_number(UP, abs(number))), True)
            self.one_of_both(("common", by_number(FLAT, number), by_number(CUBES, 2 * number), by_number(UP, 2 * abs(number))),
                             False)
            self.one_of_both(("common", ((0, 4 * number),), ((3, 6 * number),), ((0, 2 * abs(number)),)), True)
            self.one_of_both(("common", ((0, 4 * number),), ((3, 6 * number),), ((0, abs(number)),)), False)
            self.one_of_both(("only", by_number(along(RULER, number), number)), True)
            self.one_of_both(("only", by_number(along(ONE, number), number)), False)
            self.one_of_both(("somebody", gaps(by_number(ONE, number))), True)
            self.one_of_both(("somebody", by_number(gaps(ONE), -abs(number))), False)
        self.one_of_both(("only", ((-7, -GREAT),)), True)
        self.one_of_both(("somebody", ((0, 2),)), False)
        self.one_of_both(("somebody", ((0, 9),)), True)
        self.one_of_both(("somebody", ((1, 9),)), False)

    def test_many_turned_ones(self):
        # More than 200 rows have the differences, so all_rows tells none; and all ways to have just two.
        many = all_times([times(one, one) for one in TURNING[:3]] + [((0, 1), (1, 3)), ((0, 1), (1, 4)), ((0, 1), (1, 5))])
        self.one_of_both(("only", many), False)
        for row in (times(ONE, ONE), times(RULER, RULER), times(times(RULER, RULER), RULER), times(RULER, back(RULER)),
                    times(times(RULER, back(RULER)), times(RULER, back(RULER))), all_times([RULER, RULER, back(RULER)]),
                    all_times([((0, 1), (1, 2)), RULER, back(RULER)]), all_times([((0, 1), (1, 2)), RULER, RULER]),
                    times(RULER, ((0, 1), (1, 2))), all_times([RULER] * 15)):
            self.one_of_both(("only", row), False)
            self.one_of_both(("only", times(row, ((0, -1), (60 - (row[-1][0] - row[0][0]), 1)) if row[-1][0] - row[0][0] < 60
                                                else ((0, 3),))), False)
        for row in [times(atom, middle) for atom in TURNING[:3] for middle in MIDDLE] + [all_times(MIDDLE * 2), RULER]:
            self.one_of_both(("only", row), True)

    def test_long_lengths(self):
        rng = dice(203)
        nine = tuple((p, 1) for p in (0, 1, 5, 12, 25, 27, 35, 41, 44))
        for heap in (LONG, FAR, nine, tuple((p * p, 1) for p in range(9)), ((0, 9),), ((0, 4), (GREAT, 5)),
                     tuple((p * GREAT, 1) for p in range(9)), tuple((p, 1) for p in range(9)),
                     tuple(sorted((rng.randint(1, GREAT) if p else 0, 1) for p in range(9)))):
            lengths = between(heap)
            self.assertEqual(len(lengths), 36)
            heaps = heaps_of(lengths)
            self.one_of_both(("all heaps", lengths, heaps), True)
            for at, told in enumerate(heaps):
                self.one_of_both(("all heaps", lengths, heaps[:at] + heaps[at + 1:]), False)
                near = plus(told, ((told[-1][0], -1), (told[-1][0] + 1, 1)))
                self.one_of_both(("all heaps", lengths, tuple(sorted(set(heaps[:at] + (near,) + heaps[at + 1:])))), False)
            self.one_of_both(("all heaps", lengths, ()), False)
            self.one_of_both(("all heaps", lengths[:-1] + (lengths[-1] + 1,), heaps), False)
        self.one_of_both(("all heaps", (1, 3, 4), tuple(((0, 1), (p, 1)) for p in range(1, 201))), False)
        self.one_of_both(("all heaps", tuple(range(36)), ()), heaps_of(tuple(range(36))) == ())

    def test_marks(self):
        sixty = prime_marks(59) + (20000,)
        self.one_of_both(("ruler", sixty), True)
        self.one_of_both(("ruler", sixty[:-1] + (2 * sixty[-2] - sixty[-3],)), False)
        self.one_of_both(("ruler", tuple(range(60))), False)
        self.one_of_both(("ruler", (-GREAT, 0, GREAT)), False)
        for many in range(1, 7):
            best = {1: (0,), 2: (0, 1), 3: (0, 1, 3), 4: (0, 1, 4, 6), 5: (0, 1, 4, 9, 11), 6: (0, 1, 4, 10, 12, 17)}[many]
            self.one_of_both(("shortest", tuple(mark - GREAT for mark in best)), True)
            if many > 1:
                self.one_of_both(("shortest", (*best[:-1], best[-1] + GREAT)), False)

    def test_rings_of_sixty(self):
        rng = dice(204)
        for n in (59, 60):
            lot = tuple(sorted(rng.sample(range(n), n // 2)))
            rest = tuple(place for place in range(n) if place not in lot)
            self.one_of_both(("same round", n, lot, rest), n == 60)
            self.one_of_both(("alike round", n, lot, rest), False)
            self.one_of_both(("alike round", n, lot, turned(n, lot, 41, -1)), True)
            self.one_of_both(("alike round", n, lot, turned(n, lot, 1)), True)
            self.one_of_both(("same round", n, lot, turned(n, lot, 17, -1)), True)
            self.one_of_both(("same round", n, lot[1:], turned(n, lot, 17)), False)
            self.one_of_both(("alike round", n, (), ()), True)

    def test_points(self):
        cube = (((0, 0, 0), 1), ((0, 1, 1), 3), ((2, 0, 1), 1))
        hook = (((0, 0, 0), 1), ((1, 2, 0), 1), ((2, 2, 2), 2))
        wide = tuple(sorted({(a, b): 1 + a * b % 3 for a in range(0, 13, 3) for b in range(0, 13, 4)}.items()))
        self.one_of_both(("same points", times_points(cube, hook), times_points(cube, back_points(hook))), True)
        self.one_of_both(("same points", times_points(cube, hook), times_points(cube, cube)), False)
        self.one_of_both(("same points", wide, back_points(wide)), True)
        self.one_of_both(("same points", wide, wide[1:]), False)
        self.one_of_both(("same points", times_points(HOOK, CORNER), back_points(times_points(HOOK, CORNER))), True)
        self.one_of_both(("same points", (((GREAT, 0), 3),), (((0, 0), 3),)), True)
        full = tuple(((a, b), 1) for a in range(13) for b in range(13))
        self.one_of_both(("same points", full, full), True)
        box = tuple(((a, b, c), 1) for a in range(5) for b in range(5) for c in range(5))
        self.one_of_both(("same points", box, box), True)
        self.one_of_both(("same points", box, box[1:]), False)


class Refusals(unittest.TestCase):
    def test_no_claims(self):
        for value in NOT_TUPLES + [(), ("same",), ("same", ONE), ("same", ONE, ()), ("whole", FLAT), ("ruler", (0, 1, True)),
                                   ("shortest", (0, 1, 2)), ("same round", 0, (), ()), (True, ONE, TWO), nested(20),
                                   ["ruler", (0, 1)], ("ruler", [0, 1]), ("ruler", (0, 1), ())]:
            for call in (paper_for, settled):
                wanted(self, InvalidClaim, lambda call=call, value=value: call(value), given=value)


if __name__ == "__main__":
    unittest.main()
