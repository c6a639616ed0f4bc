"""[E1] and points.py."""

import unittest

from samegaps.errors import InvalidPoints, TooMany
from samegaps.points import differences_of_points, is_points, mirrored_points, point_apart, product_of_points
from samegaps.points import rooted_points, same_points, spread_of_points
from samples import CORNER, GREAT, HOOK, NOT_TUPLES, WRONG_POINTS, along_points, back_points, dice, points_from
from samples import refuses_wrong_points, some_points, times_points, wanted

# 400 POINTs, on a line and of a rectangle; their products have more pairs, or fewer.
LINE = tuple(((0, p), p + 1) for p in range(400))
AREA = tuple(((a, b), 1) for a in range(20) for b in range(20))
CUBE = tuple(((a, b, 3), -1) for a in range(20) for b in range(20))
ONE = {2: (((0, 0), 1),), 3: (((0, 0, 0), 1),)}


def counted(points):
    """The differences, each pair of POINTs by itself."""
    told = {}
    for one, weight in points:
        for other, more in points:
            at = tuple(a - b for a, b in zip(one, other))
            told[at] = told.get(at, 0) + weight * more
    return points_from(told)


def by_number(points, number):
    """The multiple."""
    return tuple((point, weight * number) for point, weight in points)


class Examples(unittest.TestCase):
    def test_of_the_document(self):
        corner, hook = (((0, 0), 1), ((0, 1), 1), ((1, 0), 1)), (((0, 0), 1), ((2, 0), 1), ((3, 1), 1))
        wide, back = product_of_points(hook, corner), product_of_points(hook, mirrored_points(corner))
        self.assertEqual([is_points(corner), is_points(corner[::-1]), spread_of_points(wide), same_points(wide, back),
                          point_apart(wide, back), len(differences_of_points(corner)), point_apart(hook, corner)],
                         [True, False, 4, True, None, 7, (0, 1)])
        # By hand: the nine sums, up to (4, 1) and (3, 2).
        self.assertEqual([len(wide), wide[-1][0], ((3, 2), 1) in wide], [9, (4, 1), True])


class PointRows(unittest.TestCase):
    def test_is_points(self):
        for value in ((), CORNER, HOOK, LINE, AREA, CUBE, (((5, -3), -2),), (((-GREAT, GREAT, 0), GREAT),),
                      (((0, 0, 5), 1), ((0, 1, 4), -7), ((1, -9, -9), 2))):
            self.assertIs(is_points(value), True)
        for value, _ in WRONG_POINTS:
            self.assertIs(is_points(value), False)
        for value in NOT_TUPLES:
            self.assertIs(is_points(((value, 1),)), False)
            self.assertIs(is_points(value=(((value, 0), 1),)), type(value) is int)
            self.assertIs(is_points((((0, 0), 1), value)), False)

    def test_spreads(self):
        rng = dice(71)
        for points, spread in (((), 0), ((((5, -7), 3),), 0), (CORNER, 1), (LINE, 399), (AREA, 19), (CUBE, 19),
                               ((((-GREAT, 0), 1), ((GREAT, 4), 1)), 2 * GREAT),
                               ((((0, 9, -4), 1), ((1, 2, 2), 1), ((3, 3, 3), -1)), 7),
                               ((((0, 9), 1), ((1, -2), 1), ((3, 3), -1)), 11)):
            self.assertEqual(spread_of_points(points), spread)
        for _ in range(80):
            letters = rng.choice((2, 3))
            points = along_points(some_points(rng, letters, 5, 9, 3), [rng.randint(-9, 9) for _ in range(letters)])
            most = max(max(p[at] for p, _ in points) - min(p[at] for p, _ in points) for at in range(letters))
            self.assertEqual(spread_of_points(points=points), most)

    def test_shifted_and_mirrored(self):
        rng = dice(72)
        for _ in range(80):
            letters = rng.choice((2, 3))
            size = rng.choice((4, GREAT))
            points = some_points(rng, letters, rng.randint(1, 6), size, size)
            told = along_points(points, [-letter for letter in points[0][0]])
            self.assertEqual(told[0][0], (0,) * letters)
            self.assertEqual(rooted_points(along_points(points, [rng.randint(-9, 9) for _ in range(letters)])), told)
            self.assertEqual(mirrored_points(points), back_points(points))
            self.assertEqual(mirrored_points(mirrored_points(points)), points)
        self.assertEqual([rooted_points(()), mirrored_points(())], [(), ()])
        self.assertEqual(rooted_points((((3, 1), -2), ((3, 4), 5), ((4, -1), 1))),
                         (((0, 0), -2), ((0, 3), 5), ((1, -2), 1)))
        self.assertEqual(mirrored_points(points=(((3, 1), -2), ((4, -1), 1))), (((-4, 1), 1), ((-3, -1), -2)))
        self.assertEqual(rooted_points(points=(((3, 1), -2),)), (((0, 0), -2),))

    def test_products(self):
        rng = dice(73)
        for _ in range(80):
            letters = rng.choice((2, 3))
            one = some_points(rng, letters, rng.randint(0, 6), 3, rng.choice((2, GREAT)))
            other = some_points(rng, letters, rng.randint(0, 6), 2, 3)
            other = along_points(other, [rng.randint(-9, GREAT) for _ in range(letters)])
            self.assertEqual(product_of_points(one, other), times_points(one, other))
            self.assertEqual(product_of_points(other, one), times_points(one, other))
            self.assertEqual(product_of_points(one, ONE[letters]), one)
            self.assertEqual(product_of_points((), one), ())
            self.assertEqual(product_of_points(points=one, other=()), ())
        square = times_points((((0, 0), 1), ((1, 1), 1)), (((0, 0), 1), ((1, 1), -1)))
        self.assertEqual(product_of_points((((0, 0), 1), ((1, 1), 1)), (((0, 0), 1), ((1, 1), -1))), square)
        self.assertEqual(square, (((0, 0), 1), ((2, 2), -1)))

    def test_too_many(self):
        shift = (((7, -GREAT), -1),)
        self.assertEqual(len(product_of_points(LINE, shift)), 400)
        self.assertEqual(len(product_of_points(AREA, shift)), 400)
        for points in (LINE, AREA):
            wanted(self, TooMany, lambda points=points: product_of_points(points, CORNER))
        # What comes to 0 is not counted: 400 marks in a row times -1 and 1 are two.
        row = tuple(((0, p), 1) for p in range(400))
        self.assertEqual(product_of_points(row, (((0, 0), -1), ((0, 1), 1))), (((0, 0), -1), ((0, 400), 1)))
        self.assertEqual(len(product_of_points(row[:200], row[:201])), 400)
        wanted(self, TooMany, lambda: product_of_points(row[:201], row[:201]))
        self.assertEqual(len(differences_of_points(row[:200])), 399)
        wanted(self, TooMany, lambda: differences_of_points(row[:201]))
        self.assertEqual(len(differences_of_points(tuple(((a, b), 1) for a in range(10) for b in range(10)))), 361)
        wanted(self, TooMany, lambda: differences_of_points(AREA))
        wanted(self, TooMany, lambda: differences_of_points(CUBE))


class Differences(unittest.TestCase):
    def test_counted(self):
        rng = dice(74)
        for _ in range(80):
            letters = rng.choice((2, 3))
            points = some_points(rng, letters, rng.randint(0, 7), 4, rng.choice((1, 3, GREAT)))
            told = differences_of_points(points)
            self.assertEqual(told, counted(points))
            self.assertEqual(mirrored_points(told), told)
            self.assertEqual(sum(w for _, w in told), sum(w for _, w in points) ** 2)
            shift = [rng.randint(-GREAT, GREAT) for _ in range(letters)]
            for same in (along_points(points, shift), back_points(points), by_number(points, -1)):
                self.assertEqual(differences_of_points(points=same), told)
                self.assertIs(same_points(points, same), True)
                self.assertIsNone(point_apart(points, same))

    def test_turned(self):
        rng = dice(75)
        for _ in range(60):
            letters = rng.choice((2, 3))
            one, other = some_points(rng, letters, 4, 3, 4), some_points(rng, letters, 4, 3, 4)
            wide, back = times_points(one, other), times_points(one, back_points(other))
            self.assertIs(same_points(wide, back), True)
            self.assertIsNone(point_apart(wide, back))

    def test_apart(self):
        rng = dice(76)
        unlike = 0
        for _ in range(150):
            letters = rng.choice((2, 3))
            one, other = some_points(rng, letters, 3, 2, 2), some_points(rng, letters, 3, 2, 2)
            first, second = dict(counted(one)), dict(counted(other))
            nought = (0,) * letters
            apart = [p for p in {**first, **second} if p >= nought and first.get(p, 0) != second.get(p, 0)]
            self.assertEqual(point_apart(one, other), min(apart, default=None))
            self.assertIs(same_points(one, other), not apart)
            unlike += min(apart, default=nought) != nought
        self.assertTrue(unlike > 10)
        # A letter behind the first one may be below 0.
        self.assertEqual(point_apart((((0, 0), 1), ((1, -3), 1)), (((0, 0), 1), ((1, 3), 1))), (1, -3))
        self.assertEqual(point_apart(points=(((0, 0), 1), ((0, 3), 1)), other=(((0, 0), 1), ((1, -3), 1))), (0, 3))

    def test_nought(self):
        self.assertIsNone(point_apart((), ()))
        self.assertIs(same_points((), ()), True)
        for points, letters in ((CORNER, 2), (by_number(HOOK, -GREAT), 2), ((((4, 4, 4), -1),), 3), (LINE, 2)):
            self.assertEqual(point_apart((), points), (0,) * letters)
            self.assertEqual(point_apart(points, ()), (0,) * letters)
            self.assertIs(same_points(points, ()), False)
            self.assertIs(same_points(points=(), other=points), False)

    def test_beyond_four_hundred(self):
        # 60 marks with 3541 unlike differences.
        many = tuple(((k, k * k % 61), 1) for k in range(61))
        self.assertTrue(len(counted(many)) > 3600)
        wanted(self, TooMany, lambda: differences_of_points(many))
        self.assertIs(same_points(many, back_points(many)), True)
        self.assertIsNone(point_apart(many, along_points(many, (3, -GREAT))))
        bent = many[:-1] + (((60, 2), 1),)
        first, second = dict(counted(many)), dict(counted(bent))
        apart = min(p for p in {**first, **second} if p >= (0, 0) and first.get(p, 0) != second.get(p, 0))
        self.assertIs(same_points(many, bent), False)
        self.assertEqual(point_apart(many, bent), apart)
        self.assertIs(same_points(LINE, LINE[::-1][::-1]), True)
        self.assertEqual(point_apart(LINE, AREA), (0, 0))


class Refusals(unittest.TestCase):
    def test_points(self):
        for call in (spread_of_points, rooted_points, mirrored_points, differences_of_points):
            refuses_wrong_points(self, InvalidPoints, call)
        for call in (product_of_points, same_points, point_apart):
            refuses_wrong_points(self, InvalidPoints, lambda value, call=call: call(value, ()))
            refuses_wrong_points(self, InvalidPoints, lambda value, call=call: call((), value))
            refuses_wrong_points(self, InvalidPoints, lambda value, call=call: call(HOOK, value))
            wanted(self, InvalidPoints, lambda call=call: call((((0, 0), 1), 2), None), index=1)
            wanted(self, InvalidPoints, lambda call=call: call(CORNER, CUBE), index=None)
            wanted(self, InvalidPoints, lambda call=call: call(CUBE, CORNER), index=None)
            wanted(self, InvalidPoints, lambda call=call: call(CUBE, (((0, 0), 1), 5)), index=1)
            wanted(self, InvalidPoints, lambda call=call: call(CUBE[::-1], CORNER), index=1)


if __name__ == "__main__":
    unittest.main()
