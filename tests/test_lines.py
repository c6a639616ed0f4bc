"""[E2] and lines.py."""

import unittest
from itertools import combinations_with_replacement, product

from samegaps.errors import InvalidPoints, InvalidRow, InvalidWhole, NotNow, TooMany
from samegaps.gaps import differences, have_same
from samegaps.lines import all_points, back_of, line_of
from samegaps.points import differences_of_points, rooted_points, same_points, spread_of_points
from samegaps.rows import mirrored
from samples import CORNER, GREAT, HOOK, NOT_WHOLE, Odd, along, along_points, back_points, dice, points_from
from samples import refuses_wrong_points, refuses_wrong_rows, some_points, times, times_points, wanted

ONE = (((0, 0), 1),)


def lined(points, step):
    """The line, by a dict."""
    told = {}
    for point, weight in points:
        place = 0
        for letter in point:
            place = place * step + letter
        told[place] = told.get(place, 0) + weight
    return points_from(told)


def heap_at(points):
    """The point heap with these POINTs."""
    return points_from({point: points.count(point) for point in points})


def near_noughts(rng, letters, step):
    """A point row from noughts on, ascending; each letter but the first one from - step / 2 on and below step / 2."""
    low, high = -(step // 2), (step - 1) // 2
    told = {(0,) * letters: rng.choice((1, -2, 7))}
    for _ in range(rng.randint(0, 6)):
        point = (rng.randint(0, 5), *[rng.choice((low, high, rng.randint(low, high))) for _ in range(letters - 1)])
        if point > (0,) * letters:
            told[point] = rng.choice((1, -1, 3, GREAT))
    return points_from(told)


class Examples(unittest.TestCase):
    def test_of_the_document(self):
        corner, hook = CORNER, HOOK
        wide = times_points(hook, corner)
        self.assertEqual([line_of(corner, 4), back_of(((0, 1), (1, 1), (4, 1)), 4, 2) == corner,
                          back_of(((0, 1), (3, 1)), 4, 2)],
                         [((0, 1), (1, 1), (4, 1)), True, (((0, 0), 1), ((1, -1), 1))])
        self.assertEqual([len(all_points(corner)), corner in all_points(corner), len(all_points(wide)),
                          wide in all_points(wide)], [2, True, 4, True])
        # By hand: hook and corner may be turned, each by itself.
        told = {rooted_points(times_points(a, b)) for a in (hook, back_points(hook)) for b in (corner, back_points(corner))}
        self.assertEqual(all_points(wide), tuple(sorted(told)))


class Lines(unittest.TestCase):
    def test_places(self):
        rng = dice(81)
        for _ in range(100):
            letters = rng.choice((2, 3))
            points = some_points(rng, letters, rng.randint(0, 8), 4, rng.choice((1, 2, GREAT)))
            points = along_points(points, [rng.randint(-9, 9) for _ in range(letters)])
            for step in (1, 2, 3, 5, 9, GREAT):
                self.assertEqual(line_of(points, step), lined(points, step))
                other = some_points(rng, letters, 4, 3, 3)
                if points and other:
                    self.assertEqual(line_of(times_points(points, other), step),
                                     times(line_of(points, step), line_of(other, step)))
                self.assertEqual(line_of(back_points(points), step), mirrored(line_of(points, step)))
        self.assertEqual(line_of((), 7), ())
        self.assertEqual(line_of((((2, -3, 5), 4),), 10), ((175, 4),))
        self.assertEqual(line_of(points=(((2, -3), 4),), step=10), ((17, 4),))

    def test_places_that_meet(self):
        points = (((0, 3), 2), ((1, 0), 5))
        self.assertEqual(line_of(points, 3), ((3, 7),))
        self.assertEqual(line_of(points, 2), ((2, 5), (3, 2)))
        self.assertEqual(line_of((((0, 3), 2), ((1, 0), -2)), 3), ())
        self.assertEqual(line_of((((0, 0, 4), 1), ((0, 2, 0), -1), ((1, 0, 0), 1)), 2), ((4, 1),))
        self.assertEqual(line_of((((0, 9), 1), ((1, 0), 1)), 1), ((1, 1), (9, 1)))

    def test_wide_steps(self):
        rng = dice(82)
        for _ in range(80):
            letters = rng.choice((2, 3))
            one = heap_at([point for point, _ in some_points(rng, letters, 5, 3, 1)])
            other = heap_at([point for point, _ in some_points(rng, letters, 5, 3, 1)])
            step = 2 * max(spread_of_points(one), spread_of_points(other)) + 1
            self.assertIs(same_points(one, other), have_same(line_of(one, step), line_of(other, step)))
            back = times_points(one, back_points(other))
            wide = times_points(one, other)
            step = 2 * max(spread_of_points(wide), spread_of_points(back)) + 1
            self.assertIs(have_same(line_of(wide, step), line_of(back, step)), True)
            told = differences_of_points(wide)
            self.assertEqual(line_of(told, step), differences(line_of(wide, step)))
            self.assertEqual(len(line_of(told, step)), len(told))

    def test_steps_that_are_not_wide(self):
        # By step 2 both lines are 0, 1, 2, but the points have unlike differences.
        one, other = (((0, 0), 1), ((0, 1), 1), ((1, 0), 1)), (((0, 0), 1), ((0, 1), 1), ((0, 2), 1))
        self.assertIs(have_same(line_of(one, 2), line_of(other, 2)), True)
        self.assertIs(same_points(one, other), False)


class WayBack(unittest.TestCase):
    def test_there_and_back(self):
        rng = dice(83)
        for _ in range(300):
            letters = rng.choice((2, 3))
            step = rng.choice((1, 2, 3, 4, 5, 8, 9, GREAT, GREAT + 1))
            points = near_noughts(rng, letters, step)
            self.assertEqual(back_of(lined(points, step), step, letters), points)

    def test_of_any_row(self):
        rng = dice(84)
        for _ in range(100):
            step = rng.choice((1, 2, 3, 4, 5, 8, 9, GREAT))
            places = sorted({0} | {rng.randint(0, rng.choice((9, 99, GREAT))) for _ in range(6)})
            row = tuple((place, rng.choice((1, -4, GREAT))) for place in places)
            for letters in (2, 3):
                points = back_of(row, step, letters)
                self.assertEqual(lined(points, step), row)
                self.assertEqual(points, tuple(sorted(points)))
                self.assertEqual(points[0][0], (0,) * letters)
                for point, _ in points:
                    self.assertEqual(len(point), letters)
                    self.assertTrue(all(-step <= 2 * letter < step for letter in point[1:]))

    def test_some(self):
        row = ((0, 1), (1, 2), (2, 3), (3, 4), (5, 6))
        self.assertEqual(back_of(row, 1, 2), tuple(((p, 0), w) for p, w in row))
        self.assertEqual(back_of(row, 1, 3), tuple(((p, 0, 0), w) for p, w in row))
        self.assertEqual(back_of(row, 2, 2), (((0, 0), 1), ((1, -1), 2), ((1, 0), 3), ((2, -1), 4), ((3, -1), 6)))
        self.assertEqual(back_of(row, 3, 2), (((0, 0), 1), ((0, 1), 2), ((1, -1), 3), ((1, 0), 4), ((2, -1), 6)))
        self.assertEqual(back_of(row, 2, 3), (((0, 0, 0), 1), ((1, -1, -1), 2), ((1, -1, 0), 3), ((1, 0, -1), 4),
                                              ((2, -1, -1), 6)))
        self.assertEqual(back_of(row=((0, -1), (22, 1)), step=4, letters=3), (((0, 0, 0), -1), ((2, -2, -2), 1)))
        for letters in (2, 3):
            self.assertEqual(back_of((), 4, letters), ())


class AllPoints(unittest.TestCase):
    def by_search(self, letters, most, many):
        """All rooted point heaps of so many POINTs, no difference above most, by their differences."""
        reach = [range(most + 1)] + [range(-most, most + 1)] * (letters - 1)
        points = [point for point in product(*reach) if point >= (0,) * letters]
        found = {}
        for told in combinations_with_replacement(points, many - 1):
            heap = heap_at([(0,) * letters, *told])
            if spread_of_points(heap) <= most:
                found.setdefault(differences_of_points(heap), []).append(heap)
        return found

    def test_beside_a_search(self):
        turned = 0
        for letters, most, many in ((2, 2, 3), (2, 2, 4), (2, 1, 9), (3, 1, 4)):
            for heaps in self.by_search(letters, most, many).values():
                heaps = tuple(sorted(heaps))
                heap = heaps[len(heaps) // 2]
                self.assertEqual(all_points(heap), heaps)
                turned += len(heaps) > 2
        self.assertTrue(turned > 0)

    def test_wide_ones(self):
        rng = dice(85)
        for _ in range(60):
            letters = rng.choice((2, 3))
            size = rng.choice((1, 5, 1000, GREAT))
            points = [tuple(rng.randint(-size, size) for _ in range(letters)) for _ in range(rng.randint(1, 9))]
            heap = heap_at(points)
            told = all_points(heap)
            self.assertIn(rooted_points(heap), told)
            self.assertIn(rooted_points(back_points(heap)), told)
            self.assertEqual(told, tuple(sorted(set(told))))
            for other in told:
                self.assertEqual(rooted_points(other), other)
                self.assertIs(same_points(heap, other), True)

    def test_products(self):
        rng = dice(86)
        for letters in (2, 3, 2, 3, 2, 3):
            size = rng.choice((3, 50, GREAT))
            one, other = [heap_at([tuple(rng.randint(0, size) for _ in range(letters)) for _ in range(3)])
                          for _ in range(2)]
            told = {rooted_points(times_points(a, b)) for a in (one, back_points(one)) for b in (other, back_points(other))}
            self.assertTrue(told <= set(all_points(along_points(times_points(one, other), (4, -GREAT, 1)[:letters]))))

    def test_where_lesser_steps_tell_others(self):
        # By steps of twice the spread and 1, by three times the spread, the lines have two heaps more.
        for heap in ((((0, 0), 1), ((0, 2), 1), ((1, 1), 1), ((2, 0), 2), ((2, 2), 2)),
                     (((0, 0), 1), ((0, 2), 1), ((1, 0), 1), ((1, 2), 2), ((2, 0), 2), ((2, 2), 2))):
            told = tuple(sorted((heap, along_points(back_points(heap), (2, 2)))))
            self.assertEqual(all_points(heap), told)

    def test_few(self):
        self.assertEqual(all_points((((3, -7), 1),)), (ONE,))
        self.assertEqual(all_points(points=(((3, -7, 5), 9),)), ((((0, 0, 0), 9),),))
        self.assertEqual(all_points((((3, -7), 1), ((4, -8), 8))),
                         ((((0, 0), 1), ((1, -1), 8)), (((0, 0), 8), ((1, -1), 1))))

    def test_counts(self):
        nine = tuple(((k, k * k % 7), 1) for k in range(9))
        self.assertIn(nine, all_points(nine))
        for points in (tuple(((k, k * k), 1) for k in range(10)), (((0, 0), 10),), (((0, 0), 9), ((1, 1), 1)),
                       (((0, 0, 0), GREAT),), tuple(((k, 0), 1) for k in range(400))):
            wanted(self, TooMany, lambda points=points: all_points(points))
        for points in ((), (((0, 0), -1),), (((0, 0), 20), ((1, 1), -11)), (((0, 0), 5), ((1, 1), -4), ((2, 0), 3)),
                       (((0, 0, 0), 10), ((0, 0, 1), -20))):
            wanted(self, NotNow, lambda points=points: all_points(points))


class Refusals(unittest.TestCase):
    NO_STEPS = NOT_WHOLE + [0, -1, -GREAT]
    NO_LETTERS = NOT_WHOLE + [0, 1, 4, -2, GREAT]

    def test_lines(self):
        for call in (lambda value: line_of(value, 1), lambda value: line_of(value, None), all_points):
            refuses_wrong_points(self, InvalidPoints, call)
        for value in self.NO_STEPS:
            wanted(self, InvalidWhole, lambda value=value: line_of(CORNER, value), given=value)

    def test_the_way_back(self):
        refuses_wrong_rows(self, InvalidRow, lambda value: back_of(value, 1, 2))
        refuses_wrong_rows(self, InvalidRow, lambda value: back_of(value, 0, None))
        for value in self.NO_STEPS:
            wanted(self, InvalidWhole, lambda value=value: back_of(((1, 1),), value, Odd), given=value)
        for value in self.NO_LETTERS:
            wanted(self, InvalidWhole, lambda value=value: back_of(((1, 1),), 5, value), given=value)
            wanted(self, InvalidWhole, lambda value=value: back_of((), 5, value), given=value)
        for row in (((1, 1),), ((-1, 1), (0, 1)), along(((0, 2), (4, 1)), -GREAT)):
            for letters in (2, 3):
                wanted(self, NotNow, lambda row=row, letters=letters: back_of(row, 5, letters))


if __name__ == "__main__":
    unittest.main()
