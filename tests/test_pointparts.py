"""[E3] and pointparts.py."""

import unittest

from samegaps.divisors import common_divisor
from samegaps.errors import InvalidPoints, NotNow, TooWide
from samegaps.lines import line_of
from samegaps.pointparts import common_points, divided_points, shared_points
from samegaps.points import mirrored_points, product_of_points, rooted_points, same_points, spread_of_points
from samples import CORNER, GREAT, HOOK, along_points, back_points, dice, points_from, refuses_wrong_points
from samples import some_points, times_points, wanted

ONE = {2: (((0, 0), 1),), 3: (((0, 0, 0), 1),)}
# Atoms in each letter, no two of them with a common divisor, with contents 1.
PARTS = {
    2: [CORNER, HOOK, (((0, 0), 2), ((0, 1), 1)), (((0, 0), 3), ((1, 0), -1)), (((0, 0), 1), ((1, 2), GREAT)),
        (((0, 0), 1), ((0, 1), 1), ((1, 0), -3), ((2, 2), 1)), (((0, 2), 1), ((2, 0), 1), ((2, 1), -5))],
    3: [(((0, 0, 0), 1), ((0, 0, 1), 1), ((0, 1, 0), 1), ((1, 0, 0), 1)), (((0, 0, 0), 2), ((0, 0, 1), 1)),
        (((0, 0, 0), 2), ((0, 1, 0), 3)), (((0, 0, 0), 5), ((1, 0, 0), -1)), (((0, 0, 0), 1), ((1, 1, 1), GREAT)),
        (((0, 0, 1), 1), ((0, 1, 0), -2), ((1, 0, 0), 7))],
}


def by_number(points, number):
    """The multiple."""
    return tuple((point, weight * number) for point, weight in points)


def all_points_times(rows, letters):
    """The product of all."""
    total = ONE[letters]
    for points in rows:
        total = times_points(total, points)
    return total


def root_of(points):
    """The one alike with it, from noughts on, ending above 0."""
    told = by_number(points, 1 if points[-1][1] > 0 else -1)
    return along_points(told, [-letter for letter in points[0][0]])


def bent(points, at, more):
    """The point row with more weight at one of its POINTs."""
    told = dict(points)
    told[points[at][0]] += more
    return points_from(told)


class Examples(unittest.TestCase):
    def test_of_the_document(self):
        corner, hook = CORNER, HOOK
        wide, back = product_of_points(hook, corner), product_of_points(hook, mirrored_points(corner))
        self.assertEqual([common_points(wide, back) == hook, shared_points(wide, back) == (hook, corner),
                          divided_points(wide, corner) == hook, divided_points(hook, corner)],
                         [True, True, True, None])


class Common(unittest.TestCase):
    def known(self):
        """Two products, and their greatest common divisor by the parts that both have."""
        rng = dice(91)
        for _ in range(120):
            letters = rng.choice((2, 3))
            few = 2 if letters == 3 else 3
            lots = [rng.sample(range(len(PARTS[letters])), rng.randint(0, few)) for _ in range(2)]
            one, other = [all_points_times([PARTS[letters][at] for at in lot], letters) for lot in lots]
            shared = all_points_times([PARTS[letters][at] for at in lots[0] if at in lots[1]], letters)
            if max(spread_of_points(one), spread_of_points(other)) > {2: 12, 3: 4}[letters]:
                continue
            first, second, content = rng.choice(((1, 1, 1), (6, -4, 2), (-GREAT, 3 * GREAT, GREAT), (5, 7, 1)))
            one, other = [by_number(along_points(points, [rng.choice((0, -3, GREAT)) for _ in range(letters)]), number)
                          for points, number in ((one, first), (other, second))]
            yield one, other, root_of(by_number(shared, content))

    def test_known_ones(self):
        several = 0
        for one, other, shared in self.known():
            self.assertEqual(common_points(one, other), shared)
            self.assertEqual(common_points(points=other, other=one), shared)
            self.assertIsNotNone(divided_points(one, shared))
            self.assertIsNotNone(divided_points(other, shared))
            several += len(shared) > 1
        self.assertTrue(several > 15)

    def test_any_products(self):
        rng = dice(92)
        for _ in range(60):
            letters = rng.choice((2, 3))
            size, height = {2: 4, 3: 1}[letters], rng.choice((1, 2, 9, GREAT))
            part, one, other = [some_points(rng, letters, rng.randint(1, 6), size, height) for _ in range(3)]
            first, second = times_points(part, one), times_points(part, other)
            told = common_points(first, second)
            # Whatever it is, the part divides it, it divides both, and the rests have nothing in common.
            self.assertIsNotNone(divided_points(told, part))
            rests = divided_points(first, told), divided_points(second, told)
            self.assertEqual((times_points(rests[0], told), times_points(rests[1], told)), (first, second))
            self.assertEqual(common_points(*rests), ONE[letters])
            self.assertEqual(told, root_of(told))

    def test_nought(self):
        self.assertEqual(common_points((), ()), ())
        for letters in (2, 3):
            for points in PARTS[letters]:
                points = along_points(by_number(points, -6), (5, -GREAT, 1)[:letters])
                self.assertEqual(common_points(points, ()), root_of(points))
                self.assertEqual(common_points((), points), root_of(points))
                self.assertEqual(common_points(points, points), root_of(points))

    def test_lines_have_others(self):
        corner, back = CORNER, rooted_points(mirrored_points(CORNER))
        self.assertEqual(common_points(corner, back), ONE[2])
        self.assertEqual(common_points(by_number(corner, 6), by_number(back, -10)), by_number(ONE[2], 2))
        for step in (2, 5, 8, 59):
            shared = common_divisor(line_of(corner, step), line_of(back, step))
            self.assertEqual(common_divisor(shared, ((0, 1), (1, 1), (2, 1))), ((0, 1), (1, 1), (2, 1)))
        # Beside a further part just this one is told.
        wide = times_points(HOOK, corner), times_points(HOOK, back)
        self.assertEqual(common_points(*wide), HOOK)
        solid = tuple(((*point, 2 * point[0]), weight) for point, weight in corner)
        self.assertEqual(common_points(solid, mirrored_points(solid)), ONE[3])

    def test_one_letter_alone(self):
        # Rows along one letter, of the first, of the last one, and one along each.
        along = times_points((((0, 0), 1), ((0, 1), 1)), (((0, 0), 2), ((0, 3), 1)))
        across = tuple(sorted(((b, a), weight) for (a, b), weight in along))
        self.assertEqual(common_points(along, times_points((((0, 0), 1), ((0, 1), 1)), CORNER)),
                         (((0, 0), 1), ((0, 1), 1)))
        self.assertEqual(common_points(across, times_points((((0, 0), 1), ((1, 0), 1)), CORNER)),
                         (((0, 0), 1), ((1, 0), 1)))
        self.assertEqual(common_points(along, across), ONE[2])
        self.assertEqual(common_points(times_points(along, across), across), across)

    def test_many_figures(self):
        rng = dice(93)
        for letters in (2, 3):
            size = {2: 6, 3: 2}[letters]
            part, one, other = [some_points(rng, letters, 40, size, 10 ** 199) for _ in range(3)]
            told = common_points(times_points(part, one), times_points(part, other))
            self.assertEqual(told, root_of(part))

    def test_values_that_share_more(self):
        # Whatever number is set for a letter: rows that have a common divisor there, but not as points.
        for far in (2 ** 40, 2 ** 170 + 1, 10 ** 30):
            one, other = (((0, 0), -far), ((0, 1), 1)), (((0, 0), 2 * far), ((0, 1), -2), ((1, 0), 5))
            self.assertEqual(common_points(one, other), ONE[2])
            self.assertEqual(common_points(times_points(one, HOOK), times_points(other, HOOK)), HOOK)
        for k in range(30, 60):
            one, other = (((0, 0), -4), ((0, 1), 1)), (((0, 0), -4), ((0, 1), 1), ((1, 0), (5 << k) - 3))
            self.assertEqual(common_points(one, other), ONE[2])
            self.assertEqual(common_points(other, one), ONE[2])


    def test_small_beside_great(self):
        # The one has but a POINT, the other one is nought where letters are alike, or stand in some other way.
        for letters in (2, 3):
            for weight in (-1, 1, 6, GREAT):
                small = (((4,) * letters, weight),)
                for at in range(letters - 1):
                    low, high = [tuple(int(k == far) for k in range(letters)) for far in (at + 1, at)]
                    for share in (1, -1, 2 ** 41 + 1, (6 << 41) + 1, (6 << 42) + 1, GREAT):
                        other = times_points(((low, -share), (high, 1)), ((low, 2), (high, 3)))
                        self.assertEqual(common_points(small, other), ONE[letters])
                        self.assertEqual(common_points(by_number(other, 2 * weight), small),
                                         by_number(ONE[letters], abs(weight)))
        one = (((1, 1, 1), -1), ((1, 1, 2), -1), ((1, 2, 0), 1), ((1, 2, 1), 1), ((2, 0, 2), -1), ((2, 1, 1), 2),
               ((2, 2, 0), -1))
        self.assertEqual(common_points(one, (((0, 0, 0), -1),)), ONE[3])
        self.assertEqual(common_points(times_points(one, PARTS[3][0]), PARTS[3][0]), PARTS[3][0])


class Divided(unittest.TestCase):
    def test_products(self):
        rng = dice(94)
        for _ in range(100):
            letters = rng.choice((2, 3))
            size, height = {2: 6, 3: 2}[letters], rng.choice((1, 5, GREAT))
            one, other = [some_points(rng, letters, rng.randint(1, 8), size, height) for _ in range(2)]
            one = along_points(one, [rng.choice((0, 3, -GREAT)) for _ in range(letters)])
            other = along_points(other, [rng.choice((0, -2, GREAT)) for _ in range(letters)])
            whole = times_points(one, other)
            self.assertEqual(divided_points(whole, other), one)
            self.assertEqual(divided_points(points=whole, other=one), other)
            for at in range(len(whole)):
                wrong = bent(whole, at, rng.choice((1, -1, GREAT)))
                told = divided_points(wrong, other)
                # What divides both divides the bend, one pair: so it is one POINT.
                if len(other) == 1:
                    self.assertEqual(told is not None, all(w % other[0][1] == 0 for _, w in wrong))
                else:
                    self.assertIsNone(told)

    def test_some(self):
        for letters in (2, 3):
            for points in PARTS[letters]:
                self.assertEqual(divided_points((), points), ())
                self.assertEqual(divided_points(points, points), ONE[letters])
                self.assertEqual(divided_points(points, ONE[letters]), points)
                self.assertEqual(divided_points(points, by_number(points, -1)), by_number(ONE[letters], -1))
                self.assertIsNone(divided_points(points, by_number(points, 2)))
                self.assertIsNone(divided_points(ONE[letters], points))
                self.assertIsNone(divided_points(by_number(ONE[letters], 6), points))
        self.assertEqual(divided_points(by_number(HOOK, 6), (((1, -4), -3),)), along_points(by_number(HOOK, -2), (-1, 4)))
        self.assertIsNone(divided_points(by_number(HOOK, 6), (((1, -4), 4),)))
        # Divisors that are wider, even where their lines by narrow steps are nought.
        self.assertIsNone(divided_points(ONE[2], (((0, 1), 1), ((1, 0), -1))))
        self.assertIsNone(divided_points((((0, 0), 1), ((1, 0), 1)), (((0, 3), 1), ((1, 0), -1))))
        self.assertIsNone(divided_points((((0, 0, 0), 1), ((0, 0, 1), 1)), (((0, 1, 0), 1), ((1, 0, 0), -1))))

    def test_lines_divide_where_points_do_not(self):
        # On each line by a step from 1 to 60 the one divides the other, since 1 + x divides 1 + x^STEP or so.
        one, other = (((0, 0), 1), ((1, 0), -1)), (((0, 0), 1), ((0, 1), -1))
        self.assertIsNone(divided_points(one, other))
        self.assertIsNone(divided_points(other, one))
        self.assertIsNone(divided_points((((0, 0), 1), ((1, 1), -1)), other))
        self.assertIsNone(divided_points((((0, 0, 0), 1), ((0, 1, 0), -1)), (((0, 0, 0), 1), ((0, 0, 1), -1))))
        self.assertIsNone(divided_points((((0, 0), 1), ((4, 0), -1)), (((0, 0), 1), ((2, 1), -1))))


class Shared(unittest.TestCase):
    def test_turned(self):
        rng = dice(95)
        for _ in range(40):
            letters = rng.choice((2, 3))
            size = {2: 6, 3: 2}[letters]
            one, other = [tuple((point, abs(weight)) for point, weight in
                                some_points(rng, letters, rng.randint(1, 5), size, rng.choice((1, 3, GREAT))))
                          for _ in range(2)]
            points = along_points(times_points(one, other), [rng.choice((0, -GREAT)) for _ in range(letters)])
            spots = along_points(times_points(one, back_points(other)), [rng.choice((0, 7)) for _ in range(letters)])
            self.check(points, spots)
            self.check(points, points)
            self.check(back_points(points), points)

    def check(self, points, spots):
        u, v = shared_points(points, spots)
        self.assertEqual(u, root_of(u))
        self.assertEqual(u, common_points(points, spots))
        self.assertEqual(times_points(u, v), points)
        self.assertEqual(rooted_points(times_points(u, back_points(v))), rooted_points(spots))

    def test_some(self):
        wide, back = times_points(HOOK, CORNER), times_points(HOOK, back_points(CORNER))
        shift = (-5, GREAT)
        self.assertEqual(shared_points(along_points(wide, shift), back), (HOOK, along_points(CORNER, shift)))
        self.assertEqual(shared_points(points=wide, other=wide), (wide, ONE[2]))
        self.assertEqual(shared_points(by_number(CORNER, 4), by_number(mirrored_points(CORNER), 4)),
                         (by_number(ONE[2], 4), CORNER))

    def test_unlike(self):
        rng = dice(96)
        for points, other in ((HOOK, CORNER), (CORNER, by_number(CORNER, 2)), ((((0, 0), 1),), (((0, 0), 2),)),
                              ((((0, 0, 0), 1), ((1, 0, 0), 1)), (((0, 0, 0), 1), ((0, 1, 0), 1)))):
            self.assertIsNone(shared_points(points, other))
        for _ in range(40):
            letters = rng.choice((2, 3))
            points, other = [tuple((p, abs(w)) for p, w in some_points(rng, letters, 4, 2, 2)) for _ in range(2)]
            self.assertIs(shared_points(points, other) is not None, same_points(points, other))


class Refusals(unittest.TestCase):
    CALLS = (common_points, divided_points, shared_points)

    def test_points(self):
        solid = (((0, 0, 0), 1),)
        for call in self.CALLS:
            refuses_wrong_points(self, InvalidPoints, lambda value, call=call: call(value, ()))
            refuses_wrong_points(self, InvalidPoints, lambda value, call=call: call((), value))
            refuses_wrong_points(self, InvalidPoints, lambda value, call=call: call((((0, 0), -1), ((0, 99), 1)), value))
            wanted(self, InvalidPoints, lambda call=call: call((((0, 0), 1), 2), None), index=1)
            wanted(self, InvalidPoints, lambda call=call: call(CORNER, solid), index=None)
            wanted(self, InvalidPoints, lambda call=call: call(solid, (((0, 0), -1), ((99, 0), 1))), index=None)

    def test_not_now(self):
        far = (((0, 0), 1), ((0, 13), 1))
        for points in ((), CORNER, far, (((0, 0, 0), 1),)):
            wanted(self, NotNow, lambda points=points: divided_points(points, ()))
        for points in ((), (((0, 0), -1),), (((0, 0), 5), ((0, 1), -1)), by_number(far, -1),
                       (((0, 0), 5), ((4, 0), -1), ((99, 0), 1))):
            for other in (CORNER, far, ()):
                wanted(self, NotNow, lambda points=points, other=other: shared_points(points, other))
                wanted(self, NotNow, lambda points=points, other=other: shared_points(other, points))

    def test_too_wide(self):
        for letters, most in ((2, 12), (3, 4)):
            for at in range(letters):
                for place in (0, -GREAT):
                    first, last = [(place,) * at + (far,) + (place,) * (letters - at - 1) for far in (place, place + most)]
                    beyond = (*first[:at], place + most + 1, *first[at + 1:])
                    narrow = ((first, 1), (last, 1))
                    wide = ((first, 1), (beyond, 1))
                    one = ONE[letters]
                    self.assertEqual(common_points(narrow, narrow), rooted_points(narrow))
                    self.assertEqual(divided_points(narrow, narrow), one)
                    self.assertEqual(shared_points(narrow, narrow), (rooted_points(narrow), ((first, 1),)))
                    for call in self.CALLS:
                        for other in (one, narrow, wide, by_number(one, 3)):
                            wanted(self, TooWide, lambda call=call, other=other: call(wide, other))
                            wanted(self, TooWide, lambda call=call, other=other: call(other, wide))
                    wanted(self, TooWide, lambda: common_points(wide, ()))
                    wanted(self, TooWide, lambda: common_points((), wide))
                    wanted(self, TooWide, lambda: divided_points((), wide))
        # Spread 12 with two letters is let, with three it is not.
        wanted(self, TooWide, lambda: common_points((((0, 0, 0), 1), ((0, 0, 12), 1)), (((0, 0, 0), 1),)))


if __name__ == "__main__":
    unittest.main()
