"""[8], [B1] to [B4] and gaps.py."""

import unittest

from samegaps.errors import InvalidRow, InvalidWhole, NotNow, TooMany, TooWide
from samegaps.gaps import differences, first_unlike, grown, have_same, pair_of, standing, turned
from samegaps.rows import count, is_alike, mirrored, product, root
from samples import FOUR_HUNDRED, GREAT, MIXED, RULER, along, back, by_number, dice, plus, refuses_not_whole
from samples import refuses_wrong_rows, some_row, times, wanted

ONE = ((0, 1),)
UP = ((0, 1), (1, 1))
WIDE = ((0, 1), (1, 1), (61, 1))
# 60 marks of a ruler: 3541 differences, more than are told.
MANY = tuple((61 * 2 * k + k * k % 61, 1) for k in range(60))
# Rows that are not alike with their mirrored ones, without a common divisor.
LEFT = [((0, 2), (1, 1)), ((0, 1), (1, 1), (3, 1)), ((0, 1), (4, 1), (9, 1)), ((0, 5), (1, -3)), ((0, 1), (1, 10 ** 40))]


def counted(row):
    """The differences, each pair of marks by itself."""
    told = {}
    for a, one in row:
        for b, other in row:
            told[a - b] = told.get(a - b, 0) + one * other
    return tuple(sorted((d, number) for d, number in told.items() if number))


class Examples(unittest.TestCase):
    def test_of_the_document(self):
        one, two = ((0, 2), (1, 7), (2, 3)), ((0, 6), (1, 5), (2, 1))
        self.assertEqual([differences(one), have_same(one, two), first_unlike(one, one[:2]), differences(())],
                         [((-2, 6), (-1, 35), (0, 62), (1, 35), (2, 6)), True, 0, ()])
        self.assertEqual([pair_of(one, two), standing(one, two), standing(one, ((5, -3), (6, -7), (7, -2))),
                          standing(one, one[:2])],
                         [(((0, 2), (1, 1)), ((0, 1), (1, 3)), 1, 1), "turned", "mirrored", "unlike"])
        self.assertEqual([turned(((0, 2), (1, 1)), ((0, 1), (1, 3))), pair_of(((0, 1), (4, 1)), ((3, 1), (7, 1))),
                          grown(((-1, 1), (0, 2), (1, 1)), ((0, 1), (1, 1)), 3, 1)],
                         [((-1, 6), (0, 5), (1, 1)), (((0, 1), (4, 1)), ((0, 1),), 3, 1),
                          ((-3, 1), (-2, 1), (-1, 1), (0, 3), (1, 1), (2, 1), (3, 1))])
        long = ((0, 1), (1, 1), (3, 1), (4, 1), (5, 1), (7, 1), (9, 1), (10, 1), (12, 1))
        far = ((0, 1), (1, 1), (3, 1), (5, 1), (6, 1), (8, 1), (9, 1), (10, 1), (12, 1))
        self.assertEqual([have_same(long, far),
                          pair_of(long, far) == (((0, 1), (1, 1), (3, 1)), ((0, 1), (4, 1), (9, 1)), 9, 1)],
                         [True, True])


class Differences(unittest.TestCase):
    def test_counted(self):
        rng = dice(11)
        for _ in range(80):
            row = along(some_row(rng, rng.randint(0, 7), 15, rng.choice((1, 3, GREAT))), rng.randint(-9, 9))
            told = differences(row)
            self.assertEqual(told, counted(row))
            self.assertEqual(mirrored(told), told)
            self.assertEqual(count(told), count(row) ** 2)
            self.assertEqual(dict(told).get(0, 0), sum(w * w for _, w in row))
            self.assertEqual(told == (), row == ())
            for same in (along(row, GREAT), back(row), by_number(row, -1), along(by_number(back(row), -1), -3)):
                self.assertEqual(differences(same), told)
            other = some_row(rng, 4, 9, 5)
            self.assertEqual(differences(times(row, other)), product(told, differences(other)))
            self.assertEqual(turned(row, other), times(row, back(other)))
            self.assertEqual(turned(row, row), told)

    def test_too_many(self):
        twenty = MANY[:20]
        self.assertEqual(len(differences(twenty)), 381)
        wanted(self, TooMany, lambda: differences(MANY[:21]))
        self.assertEqual(len(differences(tuple((p, 1) for p in range(200)))), 399)
        wanted(self, TooMany, lambda: differences(tuple((p, 1) for p in range(201))))
        wanted(self, TooMany, lambda: turned(MANY, MANY))
        self.assertEqual(turned(FOUR_HUNDRED, ((3, -1),)), along(by_number(FOUR_HUNDRED, -1), -3))
        wanted(self, TooMany, lambda: turned(FOUR_HUNDRED, UP))

    def test_refusals(self):
        refuses_wrong_rows(self, InvalidRow, differences)
        for call in (have_same, first_unlike, turned, standing, pair_of):
            refuses_wrong_rows(self, InvalidRow, lambda value, call=call: call(value, ()))
            refuses_wrong_rows(self, InvalidRow, lambda value, call=call: call((), value))
            wanted(self, InvalidRow, lambda call=call: call(((0, 1), 2), None), index=1)


class Same(unittest.TestCase):
    def pairs(self):
        rng = dice(12)
        for _ in range(60):
            u = times(rng.choice(LEFT), some_row(rng, 3, 4, 3))
            v = times(rng.choice(LEFT), some_row(rng, 2, 4, 3))
            step = rng.choice((1, 4, GREAT))
            u, v = along(u, rng.randint(-9, 9), step), along(v, rng.randint(-9, 9), step)
            yield times(u, v), along(by_number(times(u, back(v)), rng.choice((1, -1))), rng.choice((0, 8, -GREAT)))

    def test_turned_rows(self):
        for one, other in self.pairs():
            self.assertIs(have_same(one, other), True)
            self.assertIsNone(first_unlike(one, other))
            u, v, shift, sign = pair_of(one, other)
            self.assertEqual(root(u), u)
            self.assertEqual(times(u, v), one)
            self.assertEqual(along(by_number(times(u, back(v)), sign), shift), other)
            self.assertIn(sign, (1, -1))
            word = standing(one, other)
            self.assertEqual(word == "alike", is_alike(one, other))
            self.assertEqual(word == "mirrored", not is_alike(one, other) and is_alike(one, back(other)))
            # Turned exactly if neither is alike with itself mirrored.
            self.assertEqual(word == "turned", not is_alike(u, back(u)) and not is_alike(v, back(v)))
            self.assertNotEqual(word, "unlike")

    def test_bent_rows(self):
        for one, other in self.pairs():
            place = other[-1][0]
            bent = plus(other, ((place, other[-1][1]),))
            apart = plus(counted(one), by_number(counted(bent), -1))
            least = min([d for d, _ in apart if d >= 0], default=None)
            self.assertEqual(first_unlike(one, bent), least)
            self.assertIs(have_same(one, bent), least is None)
            self.assertEqual(standing(one, bent) == "unlike", least is not None)
            if least is not None:
                self.assertIsNone(pair_of(one, bent))

    def test_common_divisor_told(self):
        one, other = times(LEFT[0], LEFT[3]), times(LEFT[0], back(LEFT[3]))
        self.assertEqual(pair_of(one, other), (LEFT[0], LEFT[3], 0, 1))
        self.assertEqual(pair_of(((5, -2),), ((1, 2),)), (((0, 2),), ((5, -1),), 6, -1))
        self.assertEqual(pair_of(other=((5, 2),), row=((5, 2),)), (((0, 2),), ((5, 1),), 10, 1))
        self.assertEqual(pair_of(RULER, along(back(RULER), 4)), (ONE, RULER, 4, 1))
        self.assertEqual(pair_of(RULER, by_number(RULER, -1)), (RULER, ONE, 0, -1))
        self.assertEqual(pair_of(times(LEFT[1], LEFT[2]), times(LEFT[1], along(back(LEFT[2]), 9))),
                         (LEFT[1], LEFT[2], 9, 1))

    def test_standings(self):
        self.assertEqual(standing(RULER, along(by_number(RULER, -1), 3)), "alike")
        self.assertEqual(standing(RULER, back(RULER)), "mirrored")
        self.assertEqual(standing(UP, back(UP)), "alike")
        self.assertEqual(standing(RULER, ((0, 1), (1, 1), (4, 2))), "unlike")
        self.assertEqual(standing(((0, 1), (1, 2)), ((0, 2), (1, 1))), "mirrored")
        self.assertEqual(standing(times(LEFT[0], LEFT[1]), times(LEFT[0], back(LEFT[1]))), "turned")

    def test_first_unlike(self):
        self.assertEqual(first_unlike((), ((0, 1),)), 0)
        self.assertIsNone(first_unlike((), ()))
        self.assertEqual(first_unlike(UP, ((0, 1), (2, 1))), 1)
        self.assertEqual(first_unlike(((0, 1), (2, 1), (3, 1)), ((0, 1), (2, 1), (GREAT, 1))), 1)
        self.assertEqual(first_unlike(((0, 1), (5, 1)), ((0, 1), (GREAT, 1))), 5)

    def test_many_differences(self):
        self.assertIs(have_same(MANY, along(back(MANY), 77)), True)
        self.assertIs(have_same(MANY, MANY[1:]), False)
        self.assertIsNone(first_unlike(MANY, MANY))
        self.assertEqual(first_unlike(MANY, MANY[:59] + ((99999, 1),)),
                         min(MANY[59][0] - place for place, _ in MANY[:59]))
        self.assertEqual(standing(MANY, back(MANY)), "mirrored")
        self.assertEqual(standing(MANY, MANY[:59] + ((99999, 1),)), "unlike")
        self.assertIs(have_same(FOUR_HUNDRED, back(FOUR_HUNDRED)), True)

    def test_too_wide(self):
        self.assertIs(have_same(WIDE, back(WIDE)), True)
        self.assertEqual(standing(WIDE, back(WIDE)), "mirrored")
        for other in (WIDE, back(WIDE), ONE, RULER):
            wanted(self, TooWide, lambda other=other: pair_of(WIDE, other))
            wanted(self, TooWide, lambda other=other: pair_of(other, WIDE))
        wide = along(UP + ((60, 1),), -GREAT, 3)
        self.assertEqual(pair_of(wide, wide), (along(wide, GREAT), ((-GREAT, 1),), -2 * GREAT, 1))

    def test_told_last(self):
        for call in (standing, pair_of):
            wanted(self, NotNow, lambda call=call: call((), ()))
            wanted(self, NotNow, lambda call=call: call(WIDE, ()))
            wanted(self, NotNow, lambda call=call: call((), WIDE))
            wanted(self, InvalidRow, lambda call=call: call((), ((0, 0),)), index=0)


class Grown(unittest.TestCase):
    def test_against_nothing(self):
        rng = dice(13)
        for _ in range(100):
            row = along(some_row(rng, rng.randint(0, 6), 12, 3), rng.randint(-5, 5))
            place = rng.choice([p for p, _ in row] + [rng.randint(-20, 20), GREAT])
            weight = rng.choice((1, -1, 2, 5, -GREAT, -dict(row).get(place, 0)))
            after = plus(row, ((place, weight),) if weight else ())
            self.assertEqual(grown(counted(row), row, place, weight), counted(after))

    def test_pairs_that_vanish_or_come(self):
        self.assertEqual(grown((), (), 7, -2), ((0, 4),))
        self.assertEqual(grown(((0, 4),), ((7, -2),), 7, 2), ())
        self.assertEqual(grown(counted(MIXED), MIXED, 3, 4), ((0, 4),))
        self.assertEqual(grown(counted(MIXED), MIXED, 4, 0), counted(MIXED))
        self.assertEqual(grown(told=counted(UP), row=UP, place=2, weight=-1), ((-2, -1), (0, 3), (2, -1)))

    def test_refusals(self):
        refuses_wrong_rows(self, InvalidRow, lambda value: grown(value, None, None, None))
        refuses_wrong_rows(self, InvalidRow, lambda value: grown(UP, value, None, None))
        refuses_not_whole(self, InvalidWhole, lambda value: grown(UP, UP, value, None))
        refuses_not_whole(self, InvalidWhole, lambda value: grown(UP, UP, 1, value))
        for told, row in ((UP, UP), ((), UP), (counted(UP), RULER), (counted(UP), ()), (UP, MANY)):
            wanted(self, NotNow, lambda told=told, row=row: grown(told, row, 0, 1))
        twenty = MANY[:20]
        wanted(self, TooMany, lambda: grown(counted(twenty), twenty, 99999, 1))
        wanted(self, NotNow, lambda: grown(counted(twenty)[1:], twenty, 99999, 1))
        self.assertEqual(grown(counted(twenty), twenty, twenty[-1][0], -1), counted(twenty[:19]))


if __name__ == "__main__":
    unittest.main()
