"""[H2], [H3] and checker.py."""

import unittest

from claimjudge import BACK, OPPOSITES, bends, is_claim_by_words, is_paper, opposite_of, plain
from claimsamples import CUBES, FLAT, ONE, PARTS, TWO, UP, claims_of, other_papers
from samegaps.certificates import paper_for
from samegaps.checker import accepts
from samegaps.claims import is_claim
from samples import GREAT, NOT_TUPLES, Odd, Yes, by_number, nested, times

ODD = NOT_TUPLES + [(), (None,), (True,), (Odd(),), (Yes(),), (Yes(), Yes()), ("same",), ("heap",), (1, 2, 3), ((0, 1),), nested(20),
                    (nested(19), nested(19)), ([],), ((), ()), (((),), ()), ((Yes(), 1),), ((0, Yes()),), "heap", b"heap",
                    ("lacks", 2), ("step", Yes()), ("primes", (Yes(),)), (Yes(), 1, ()), (0, 0), (GREAT, GREAT), {"heap": 1}]


class Examples(unittest.TestCase):
    def test_of_the_document(self):
        one, two, flat, cubes = ONE, TWO, FLAT, CUBES
        self.assertEqual([accepts(("same", one, two), (((0, 2), (1, 1)), ((0, 1), (1, 3)))),
                          accepts(("unlike", one, one[:2]), 2), accepts(("unlike", one, two), 1), accepts("same", ())],
                         [True, True, False, False])
        self.assertEqual([accepts(("divides not", flat, cubes), ()),
                          accepts(("common", flat, cubes, UP), (((0, 1), (1, -1)), ((0, 2), (1, -2), (2, 2)), ((1, 2),),
                                                                ((0, 1),)))], [True, True])
        self.assertEqual([accepts(("all heaps", (1, 1, 3), ()), (("lacks", 2), ("lacks", 2))),
                          accepts(("other heaps", (1, 3, 4), ()), ((0, 1), (3, 1), (4, 1)))], [True, True])
        self.assertEqual([accepts(("parted", ((0, 2), (1, 7), (2, 3))), (((0, 2), (1, 1)), ((0, 1), (1, 3)))),
                          accepts(("not only", one), two), accepts(("no ruler", (0, 1, 2)), (1, (0, 1), (1, 2)))],
                         [True, True, True])
        self.assertEqual([accepts(("alike round", 8, (0, 1, 3, 4), (0, 1, 5, 6)), (0, 5)),
                          accepts(("not shortest", (0, 2, 5)), (0, 1, 3))], [True, True])
        self.assertIs(accepts(claim=("unlike", one, one[:2]), paper=2), True)

    def test_by_hand(self):
        # (1 - x)(2 x) and 2 - 2 x + 2 x x have the sum 2; at 2 stand 6 for one, nothing for one[:2].
        self.assertIs(accepts(("unlike", ONE, ONE[:2]), -2), True)
        self.assertIs(accepts(("unlike", ONE, ONE[:2]), 3), False)
        self.assertIs(accepts(("nobody", ((-1, 6), (0, 13), (1, 6))), ()), False)
        self.assertIs(accepts(("somebody", ((-1, 6), (0, 13), (1, 6))), ((0, 2), (1, 3))), True)


class EachKind(unittest.TestCase):
    def check(self, claim, paper):
        """The checker and the judge agree."""
        told = accepts(claim, paper)
        self.assertIs(told, is_paper(claim, paper), (claim, paper))
        return told

    def kind(self, word, most=120):
        """Right papers of both words, those that others write, and those that are bent."""
        right, wrong, whole = 0, 0, []
        for first in claims_of(word):
            for claim in (first, opposite_of(first)):
                self.assertIs(is_claim(claim), True, claim)
                paper = paper_for(claim)
                if paper is None:
                    continue
                self.assertIs(self.check(claim, paper), True)
                self.assertIs(accepts(opposite_of(claim), paper), False)
                whole.append((claim, paper))
                for other in other_papers(claim, paper):
                    told = self.check(claim, other)
                    right, wrong = right + told, wrong + (not told)
                bent = list(bends(paper))
                for other in bent[::max(1, len(bent) // most)]:
                    if plain(other) != plain(paper):
                        wrong += not self.check(claim, other)
        self.assertTrue({OPPOSITES[word], word} == {claim[0] for claim, _ in whole})
        self.assertTrue(right > 0 and wrong > 20, (right, wrong))
        self.crossed(whole)

    def crossed(self, whole):
        """The papers of all claims of one kind, each for each claim and its opposite."""
        papers = [paper for _, paper in whole][::max(1, len(whole) // 25)]
        for claim, _ in whole[::max(1, len(whole) // 40)]:
            for paper in papers:
                self.check(claim, paper)
                self.assertFalse(self.check(opposite_of(claim), paper))

    def test_same(self):
        self.kind("same")

    def test_divides(self):
        self.kind("divides")

    def test_common(self):
        self.kind("common")

    def test_whole(self):
        self.kind("whole", 60)

    def test_only(self):
        self.kind("only", 60)

    def test_somebody(self):
        self.kind("somebody", 60)

    def test_all_heaps(self):
        self.kind("all heaps")

    def test_ruler(self):
        self.kind("ruler", 400)

    def test_shortest(self):
        self.kind("shortest", 400)

    def test_same_round(self):
        self.kind("same round")

    def test_alike_round(self):
        self.kind("alike round")

    def test_same_points(self):
        self.kind("same points", 60)

    def test_all_kinds_are_here(self):
        self.assertEqual(set(PARTS), set(OPPOSITES))
        self.assertEqual(len({**OPPOSITES, **BACK}), 24)


class Odds(unittest.TestCase):
    def some(self):
        """A few claims of each word, with a right paper or None."""
        for word in PARTS:
            for first in claims_of(word)[:6]:
                for claim in (first, opposite_of(first)):
                    yield claim, paper_for(claim)

    def test_papers_of_any_kind(self):
        for claim, paper in self.some():
            for value in ODD:
                told = accepts(claim, value)
                self.assertIs(type(told), bool)
                if told:
                    self.assertTrue(type(value) in (tuple, int) and is_paper(claim, value), (claim, value))

    def test_claims_of_any_kind(self):
        for claim, paper in self.some():
            for value in ODD:
                self.assertIs(accepts(value, paper), False)
                one = (claim[0], value)
                self.assertIs(accepts(one, paper), is_claim_by_words(one) and is_paper(one, paper))
            if paper is None:
                continue
            bent = list(bends(claim))
            for other in bent[::max(1, len(bent) // 40)]:
                if not is_claim_by_words(other):
                    self.assertIs(accepts(other, paper), False)
                else:
                    self.assertIs(accepts(other, paper), is_paper(other, paper))

    def test_true_and_lists(self):
        # Equal as Python compares them, but of another kind.
        for claim, paper in (
                (("same", UP, UP), (UP, ((0, 1),))), (("unlike", UP, ((0, 1), (2, 1))), 1),
                (("divides", UP, FLAT), ((0, 1), (1, -1))), (("common", UP, UP, UP), (((0, 1),), ((0, 1),), ((0, 1),), ())),
                (("not common", UP, UP, ((0, 1),)), UP), (("parted", ((0, 1), (1, 2), (2, 1))), (UP, UP)),
                (("only", UP), ((UP, 1, ()),)), (("not only", ONE), TWO), (("somebody", ((0, 1),)), ((0, 1),)),
                (("nobody", UP), ((UP, 1, ()),)), (("other heaps", (), ()), ((0, 1),)),
                (("no ruler", (0, 1, 2)), (1, (0, 1), (1, 2))), (("not shortest", (0, 2)), (0, 1)),
                (("unlike round", 2, (0,), (0, 1)), 1), (("alike round", 2, (0,), (1,)), (0, 1)),
                (("alike round", 2, (0,), (1,)), (1, 1)), (("unlike points", (((0, 0), 1),), (((0, 0), 1), ((0, 1), 1))), (0, 1)),
                (("same points", (((0, 1), 1),), (((0, 1), 1),)), ((((0, 1), 1),), (((0, 0), 1),)))):
            self.assertIs(accepts(claim, paper), True, (claim, paper))
            for other in bends(paper):
                if other == paper and plain(other) != plain(paper):
                    self.assertIs(accepts(claim, other), False, (claim, other))

    def test_of_any_size(self):
        long = tuple((p, 1) for p in range(401))
        great = tuple((p * GREAT, GREAT + p) for p in range(400))
        deep = tuple((((0, 1), (1, k)), 1, ()) for k in range(1, 500))
        papers = [long, great, (long, long), (great, great), (great, UP), (UP, great), (great,) * 4, deep, deep * 5, deep[:40],
                  ((great, 1, ()),), ((((0, 1), (GREAT, 1)), 1, ()),), ((((0, 1), (1, 1)), GREAT, ()),),
                  ((((0, 1), (1, GREAT)), 60, ()),), tuple(range(10000)), (GREAT, (0, GREAT), (1, GREAT + 1)), GREAT ** 9,
                  ("primes", (GREAT ** 9,)), ("primes", tuple(range(10000))), ("step", -GREAT), (1, GREAT ** 9), (0, -GREAT),
                  tuple(((p, p), GREAT) for p in range(400)), (tuple(((p, p), 1) for p in range(400)),) * 2, ((10 ** 5000, 1),),
                  (((10 ** 5000, 1),), ((0, 10 ** 5000),)), (GREAT, -GREAT), (0, GREAT, -GREAT), ("lacks", GREAT)]
        for claim, _ in self.some():
            for paper in papers:
                told = accepts(claim, paper)
                self.assertIs(type(told), bool)
                if told:
                    self.assertTrue(is_paper(claim, paper))
        for paper in papers:
            self.assertIs(accepts(("all heaps", (), (((0, 1),),)), paper), False)
            self.assertIs(accepts(paper, paper), False)

    def test_contents(self):
        # X V and Y W make one pair, but 2 divides both V and W: so DIVISOR is not the greatest one.
        for number in (2, GREAT):
            v, w = ((0, 2 * number),), ((9, -3 * number),)
            for x, y in ((((0, 1),), ()), ((), ((-9, 1),)), (((0, 1),), ((-9, 1),))):
                self.assertIs(accepts(("common", v, w, ((0, 1),)), (v, w, x, y)), False)
                self.assertIs(accepts(("common", v, w, ((0, number),)), (((0, 2),), ((9, -3),), x, y)), True)
            double = by_number(UP, number)
            paper = (by_number(((0, 1), (1, -1)), number), by_number(((0, 2), (1, -2), (2, 2)), number), ((1, 2),), ((0, 1),))
            self.assertIs(accepts(("common", by_number(FLAT, number), by_number(CUBES, number), UP), paper), False)
            paper = (((0, 1), (1, -1)), ((0, 2), (1, -2), (2, 2)), ((1, 2),), ((0, 1),))
            self.assertIs(accepts(("common", by_number(FLAT, number), by_number(CUBES, number), double), paper), True)

    def test_how_often_atoms_are_told(self):
        core, other = ((0, 1), (1, 2)), ((0, 1), (1, 3))
        twice = times(times(core, core), UP)
        parts = tuple((atom, many, ()) for atom, many in sorted(((core, 2), (UP, 1))))
        claim = ("nobody", twice)
        self.assertIs(accepts(claim, parts), True)
        # Told in two triples, in any order, with an ATOM that is there no times, or less than that.
        for told in (((core, 1), (core, 1), (UP, 1)), ((core, 2), (UP, 1), (other, 0)), ((core, 2), (UP, 2), (other, -1)),
                     ((core, 3), (UP, 1), (other, -1)), ((core, 2),), ((core, 2), (UP, True)), ((core, 1), (UP, 1)),
                     ((core, 2), (UP, 1), (UP, 0)), ((times(core, core), 1), (UP, 1)), ((core, 1), (times(core, UP), 1))):
            triples = tuple((atom, many, ()) for atom, many in told)
            for paper in (tuple(sorted(triples)), triples, triples[::-1]):
                self.assertIs(accepts(claim, paper), False, paper)
        self.assertIs(accepts(claim, parts[::-1]), False)
        self.assertIs(accepts(("only", UP), ((UP, 1, ()), (other, 0, ()))), False)
        self.assertIs(accepts(("only", ((0, 5),)), ()), True)
        self.assertIs(accepts(("only", ((0, 5),)), ((UP, 0, ()),)), False)

    def test_step_of_the_paper(self):
        # 1 + x divides both, but with it all are too wide: by the step 1 spreads of 120 are.
        row = ((0, -1), (120, 1))
        claim = ("not common", row, row, ((0, 1),))
        self.assertIs(is_claim(claim), True)
        self.assertIs(accepts(claim, ((0, 1), (1, 1))), False)
        self.assertIs(accepts(claim, ((0, 1), (2, 1))), True)
        self.assertIs(accepts(claim, ((0, -1), (2, 1))), True)
        self.assertIs(accepts(claim, row), True)
        self.assertIs(accepts(("not common", ((0, -1), (60, 1)), ((0, -1), (60, 1)), ((0, 1),)), ((0, 1), (1, 1))), True)


if __name__ == "__main__":
    unittest.main()
