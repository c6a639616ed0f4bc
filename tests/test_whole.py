"""[1] to [3]: one pair of rows through all parts; what they tell of it agrees."""

import unittest

from bookmodel import gaps, root
from claimsamples import FAR, LONG, ONE, SIX, TURNING, TWO
from samegaps.atoms import middle_of, mirror_of, pairs_of
from samegaps.books import Book
from samegaps.certificates import paper_for, settled
from samegaps.checker import accepts
from samegaps.claims import is_claim, opposite
from samegaps.console import Console
from samegaps.divisors import cofactors, common_divisor, common_divisor_of, divides, mixing, quotient
from samegaps.factors import how_often, parted, put_together
from samegaps.gaps import differences, first_unlike, grown, have_same, pair_of, standing, turned
from samegaps.lines import all_points, back_of, line_of
from samegaps.pictures import ground, read_strip, read_wheel, stairs, strip, wheel
from samegaps.pointparts import common_points, divided_points, shared_points
from samegaps.points import differences_of_points, point_apart, same_points
from samegaps.primes import degrees, parted_modulo
from samegaps.rings import differences_round, rest_round, rolled
from samegaps.ringtold import lots_told, mates
from samegaps.rows import added, bare, content, count, is_alike, is_plain, less, marks_in, mirrored, multiple, product, shifted
from samegaps.rows import spread, value_at, weight_at
from samegaps.rowtexts import read_row, row_text
from samegaps.rulers import gaps_of, is_ruler, measured, places_of, plain_row, twice
from samegaps.toldback import all_heaps, all_rows, heaps_with, is_only, row_with, rows_with
from samegaps.trees import does_tell, heaps_of, lengths_of, tree_of
from samples import RULER, all_times, along, back, by_number, dice, some_row, times


def turned_pairs():
    """Pairs of rows with the same differences, short enough for all parts, neither of them ()."""
    told = [(LONG, FAR), (ONE, TWO), SIX, (RULER, along(back(RULER), 4)), (RULER, along(RULER, -5)), (((2, 3),), ((7, 3),))]
    rng = dice(211)
    for _ in range(14):
        u, v = [some_row(rng, rng.randint(1, 3), rng.randint(1, 5), 3) for _ in range(2)]
        told.append((times(u, v), by_number(along(times(u, back(v)), rng.randint(-9, 9)), rng.choice((1, -1)))))
    kinds = [times(one, other) for one in TURNING[:3] for other in TURNING[:3]]
    return told + [(row, along(back(row), 3)) for row in kinds]


def unlike_pairs():
    """Pairs with unlike differences."""
    rng = dice(212)
    told = [(LONG, FAR[:-1]), (RULER, ((0, 1), (1, 1), (3, 1))), (ONE, by_number(TWO, 2))]
    while len(told) < 15:
        one, other = [some_row(rng, rng.randint(1, 4), rng.randint(3, 8), 3) for _ in range(2)]
        if gaps(one) != gaps(other):
            told.append((one, other))
    return told


def spots_of(row):
    """The point row on the second letter, begun at noughts."""
    return tuple(((0, place - row[0][0]), weight) for place, weight in row)


class SamePairs(unittest.TestCase):
    def test_rows_and_gaps(self):
        for one, other in turned_pairs():
            told = differences(one)
            self.assertEqual([told, told, mirrored(told)], [product(one, mirrored(one)), differences(other), told])
            self.assertEqual([have_same(one, other), first_unlike(one, other)], [True, None])
            self.assertEqual(count(told), count(one) ** 2)
            self.assertEqual(weight_at(told, 0), sum(weight * weight for _, weight in one))
            u, v, shift, sign = pair_of(one, other)
            self.assertEqual([product(u, v), multiple(shifted(turned(u, v), shift), sign)], [one, other])
            self.assertEqual(u, common_divisor(one, other))
            self.assertEqual(product(differences(u), differences(v)), told)
            is_other = standing(one, other)
            self.assertEqual(is_other == "alike", is_alike(one, other))
            self.assertEqual(is_other == "alike" or is_alike(one, mirrored(other)), is_alike(u, mirrored(u)) or
                             is_alike(v, mirrored(v)))
            self.assertEqual(is_other == "turned", not is_alike(u, mirrored(u)) and not is_alike(v, mirrored(v)))
            self.assertEqual(grown(told, one, 2, 5), differences(added(one, ((2, 5),))))
            self.assertEqual(less(added(one, other), other), one)
            self.assertEqual([read_row(row_text(one)), read_row(row_text(told))], [one, told])
            for number in (2, -3):
                (high, low), (far, under) = value_at(told, number), value_at(one, number)
                back_high, back_low = value_at(mirrored(one), number)
                self.assertEqual(high * under * back_low, far * back_high * low)

    def test_divisors_and_factors(self):
        for one, other in turned_pairs():
            u, v, w = cofactors(one, other)
            self.assertEqual([product(u, v), product(u, w)], [one, other])
            self.assertTrue(is_alike(w, mirrored(v)))
            self.assertEqual([quotient(one, u), quotient(other, u), divides(u, one)], [v, w, True])
            x, y, n = mixing(one, other)
            self.assertEqual(added(product(x, one), product(y, other)), multiple(u, n))
            self.assertEqual(common_divisor_of((one, other, one)), u)
            sign, number, place, atoms = parted(one)
            self.assertEqual(put_together(sign, number, place, atoms), one)
            self.assertEqual(number, content(one))
            far = dict(parted(other)[3])
            # Both have each atom and its mirror together as often; the common divisor as often as the lesser.
            for atom, often in atoms:
                mirror = mirror_of(atom)
                many = dict(atoms)
                self.assertEqual(many.get(atom, 0) + many.get(mirror, 0), far.get(atom, 0) + far.get(mirror, 0))
                self.assertEqual(how_often(u, atom), min(often, far.get(atom, 0)))
                self.assertEqual(how_often(one, atom), often)
                if degrees(atom, 5) is not None:
                    parts = parted_modulo(atom, 5)[2]
                    self.assertEqual(sorted(spread(part) for part, k in parts for _ in range(k)), list(degrees(atom, 5)))
            self.assertEqual(middle_of(one), middle_of(other))
            self.assertEqual([pair[:2] for pair in pairs_of(one)], [pair[:2] for pair in pairs_of(other)])
            self.assertEqual(product(((0, number),), bare(one)), root(one))

    def test_told_back(self):
        for one, other in turned_pairs():
            told = differences(one)
            rows = all_rows(one)
            self.assertEqual(rows, all_rows(other))
            self.assertTrue(root(one) in rows and root(other) in rows and root(back(one)) in rows)
            self.assertIn(row_with(told), rows)
            self.assertEqual([rows_with(told), heaps_with(told)], [rows, all_heaps(one)])
            for row in rows:
                self.assertEqual(differences(row), told)
            self.assertEqual(is_only(one), set(rows) == {root(one), root(back(one))})
            expected = 1
            for _, _, many, more in pairs_of(one):
                expected = expected * (many + more + 1)
            self.assertEqual(len(rows), expected)
            if standing(one, other) == "turned":
                self.assertIs(is_only(one), False)
            self.assertEqual(settled(("only", one))[0][0] == "only", is_only(one))
            self.assertEqual(settled(("somebody", told))[0][0], "somebody")

    def test_heaps(self):
        for one, other in turned_pairs():
            if min(weight for _, weight in one + other) < 1 or count(one) > 9:
                continue
            lengths = lengths_of(one)
            self.assertEqual(lengths, lengths_of(other))
            heaps = heaps_of(lengths)
            self.assertEqual(heaps, all_heaps(one))
            self.assertEqual(heaps, heaps_with(differences(one)))
            self.assertIs(does_tell(lengths, tree_of(lengths), heaps), True)
            self.assertTrue(root(one) in heaps and root(other) in heaps)
            self.assertEqual(settled(("all heaps", lengths, heaps))[0][0], "all heaps")
            self.assertEqual(settled(("all heaps", lengths, heaps[1:]))[0][0], "other heaps")
            self.assertEqual([length for length, weight in differences(one) if length > 0 for _ in range(weight)],
                             [length for length in lengths if length > 0])
            self.assertEqual(read_strip(strip(one)), root(one))
            marks = marks_in(one)
            self.assertEqual(sorted(abs(a - b) for at, a in enumerate(marks) for b in marks[:at]), list(lengths))
            desk = Console()
            desk.say("put a " + row_text(one))
            others = [row_text(heap) for heap in heaps if heap not in (root(one), root(back(one)))]
            self.assertEqual(desk.say("others a"), tuple(others) or ("only",))
            self.assertEqual(desk.say("lengths a"), (" ".join(str(length) for length in lengths) or "none",))

    def test_points(self):
        for one, other in turned_pairs():
            if min(weight for _, weight in one + other) < 1 or spread(one) > 12:
                continue
            points, spots = spots_of(one), spots_of(other)
            self.assertEqual([same_points(points, spots), point_apart(points, spots)], [True, None])
            self.assertEqual(differences_of_points(points), tuple(((0, d), w) for d, w in differences(one)))
            step = 3 * spread(one) + 1
            self.assertEqual([line_of(points, step), back_of(root(one), step, 2)], [root(one), points])
            u, v = shared_points(points, spots)
            self.assertEqual(u, spots_of(common_divisor(one, other)))
            self.assertEqual([common_points(points, spots), divided_points(points, u)], [u, v])
            self.assertEqual(line_of(v, step), along(quotient(one, common_divisor(one, other)), -one[0][0]))
            if count(one) <= 9:
                self.assertEqual(all_points(points), tuple(spots_of(heap) for heap in all_heaps(one)))
            self.assertEqual(settled(("same points", points, spots))[0][0], "same points")
            self.assertEqual(ground(points), "".join(sign + "\n" for sign in strip(one)[::-1]))

    def test_rings(self):
        for one, other in turned_pairs():
            for n in (5, 12, 16):
                told = [rolled(n, row) for row in (one, other)]
                round_them = [tuple(sum(row[a] * row[(a - d) % n] for a in range(n)) for d in range(n)) for row in told]
                self.assertEqual(round_them[0], round_them[1])
                self.assertEqual(round_them[0], rolled(n, differences(one)))
                lots = [tuple(p for p in range(n) if row[p]) for row in told]
                if all(set(row) <= {0, 1} for row in told):
                    self.lots(n, *lots)

    def lots(self, n, lot, mate):
        numbers = differences_round(n, lot)
        self.assertEqual(numbers, differences_round(n, mate))
        self.assertEqual(differences_round(n, rest_round(n, lot)), differences_round(n, rest_round(n, mate)))
        self.assertTrue({lot, mate} <= set(lots_told(n, numbers)))
        self.assertEqual(settled(("same round", n, lot, mate)), (("same round", n, lot, mate), ()))
        is_alike_round = settled(("alike round", n, lot, mate))[0][0] == "alike round"
        self.assertEqual(is_alike_round, all(settled(("alike round", n, mate, told))[0][0] != "alike round"
                                             for told in mates(n, lot)))
        self.assertEqual(read_wheel(wheel(n, lot)), (n, lot))

    def test_rulers(self):
        for one, other in turned_pairs():
            if not is_plain(one) or not is_plain(other):
                continue
            marks = places_of(one)
            self.assertEqual([plain_row(marks), measured(marks)], [one, measured(places_of(other))])
            self.assertEqual(is_ruler(marks), all(weight == 1 for d, weight in differences(one) if d))
            self.assertEqual([is_ruler(marks), twice(marks) is None], [is_ruler(places_of(other))] * 2)
            # Rulers are no sums.
            u, v, _, _ = pair_of(one, other)
            if min(count(u), count(v)) > 1 and min(weight for _, weight in u + v) > 0:
                self.assertIs(is_ruler(marks), False)
            self.assertEqual(settled(("ruler", marks))[0][0] == "ruler", is_ruler(marks))
            if len(marks) > 1:
                self.assertEqual(stairs(one).split("\n")[-2], str(gaps_of(marks)[-1]))

    def test_books_and_console(self):
        for one, other in turned_pairs():
            book, desk = Book(), Console()
            u, v, _, _ = pair_of(one, other)
            for name, row in (("one", one), ("other", other), ("u", u), ("v", v)):
                book.put(name, row)
                desk.say(f"put {name} {row_text(row)}")
            book.join("j", "u", "v")
            book.cross("x", "u", "v")
            desk.say("join j u v")
            desk.say("cross x u v")
            self.assertEqual([book.row("j"), is_alike(book.row("x"), other)], [one, True])
            group = [lot for lot in book.groups() if "one" in lot][0]
            self.assertTrue({"one", "other", "j", "x"} <= set(group))
            self.assertEqual(desk.say("groups"), tuple(" ".join(lot) for lot in book.groups()))
            self.assertEqual([book.missed("one", "other"), desk.say("missed one other")], [(), ("none",)])
            self.assertEqual(any("one" in lot and "other" in lot for lot in book.forms("one")),
                             standing(one, other) != "turned")
            self.assertEqual(desk.say("same one other"), (standing(one, other),))
            self.assertEqual(desk.say("parts one other"), (row_text(u), row_text(v)))
            self.assertEqual(desk.say("gaps one"), (row_text(differences(one)),))
            self.assertEqual([desk.book().entries(), book.kept("one")], [book.entries(), differences(other)])
            self.assertIs(book.is_alone("one"), False)

    def test_papers(self):
        for one, other in turned_pairs():
            u, v, _, _ = pair_of(one, other)
            claim = ("same", one, other)
            self.assertEqual(settled(claim), (claim, (u, v)))
            self.assertIs(accepts(claim, (u, v)), True)
            self.assertIs(accepts(("same", one, along(back(other), 3)), (v, u)), True)
            self.assertEqual(settled(opposite(claim))[0], claim)
            self.assertEqual(settled(("divides", u, one))[1], v)
            self.assertEqual(settled(("common", one, other, u))[0][0], "common")
            self.assertEqual(accepts(("not only", one), other), standing(one, other) == "turned")
            self.assertIs(accepts(("somebody", differences(one)), other), True)
            for atom, _ in parted(one)[3]:
                self.assertEqual(settled(("parted", atom))[0], ("whole", atom))
                self.assertEqual(settled(("divides", atom, one))[0][0], "divides")
                self.assertEqual(settled(("divides", atom, other))[0][0] == "divides", how_often(other, atom) > 0)


class UnlikePairs(unittest.TestCase):
    def test_all_parts(self):
        for one, other in unlike_pairs():
            at = first_unlike(one, other)
            self.assertNotEqual(weight_at(differences(one), at), weight_at(differences(other), at))
            self.assertEqual([have_same(one, other), pair_of(one, other), standing(one, other)], [False, None, "unlike"])
            self.assertEqual([settled(("same", one, other)), paper_for(("same", one, other))], [(("unlike", one, other), at), None])
            self.assertFalse(set(all_rows(one)) & set(all_rows(other)))
            book, desk = Book(), Console()
            for name, row in (("a", one), ("b", other)):
                book.put(name, row)
                desk.say(f"put {name} {row_text(row)}")
            apart = book.missed("a", "b")
            self.assertEqual(apart[0], (at, weight_at(differences(one), at) - weight_at(differences(other), at)))
            self.assertEqual([book.groups(), desk.say("same a b"), desk.say("parts a b")],
                             [(("a",), ("b",)), ("unlike",), ("unlike",)])
            self.assertEqual(desk.say("missed a b"), tuple(f"{d}:{w}" for d, w in apart))
            for d, _ in apart:
                self.assertIs(accepts(("unlike", one, other), d), True)
                self.assertIs(accepts(("unlike", one, other), -d), True)
            if min(weight for _, weight in one + other) > 0:
                self.assertFalse(set(heaps_with(differences(one))) & set(heaps_with(differences(other))))
                if spread(one) <= 12 and spread(other) <= 12:
                    claim = ("same points", spots_of(one), spots_of(other))
                    self.assertEqual([is_claim(claim), settled(claim)[0][0]], [True, "unlike points"])
                    self.assertEqual(point_apart(*claim[1:]), (0, at))


class TheMainSentence(unittest.TestCase):
    def test_each_way_of_turning(self):
        # All rows with the differences of a product of three factors are the eight ways to turn them.
        row = all_times(TURNING[:3])
        rows = {root(all_times([one, two, three])) for one in (TURNING[0], back(TURNING[0]))
                for two in (TURNING[1], back(TURNING[1])) for three in (TURNING[2], back(TURNING[2]))}
        self.assertEqual(all_rows(row), tuple(sorted(rows)))
        for one in rows:
            for other in rows:
                u, v, _, _ = pair_of(one, other)
                self.assertEqual([root(product(u, v)), root(product(u, mirrored(v)))], [one, other])
                self.assertIs(accepts(("same", one, other), (u, v)), True)


if __name__ == "__main__":
    unittest.main()
