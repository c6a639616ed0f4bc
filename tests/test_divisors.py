"""[9], [A3] to [A5] and divisors.py."""

import unittest

from samegaps.divisors import cofactors, common_divisor, common_divisor_of, divides, is_nought_at, mixing, quotient
from samegaps.errors import InvalidRow, InvalidRows, InvalidWhole, NotNow, TooWide
from samegaps.rows import content, is_alike, multiple, product, root, value_at
from samegaps.rowtexts import read_row, row_text
from samples import GREAT, NOT_TUPLES, RULER, WRONG_ROWS, all_times, along, by_number, dice, plus, refuses_not_whole
from samples import refuses_wrong_rows, some_row, times, wanted

ONE = ((0, 1),)
UP = ((0, 1), (1, 1))
# 61 steps of 1 at once: just too wide.
WIDE = ((0, 1), (1, 1), (61, 1))


def bare_parts():
    """Rows without a common divisor, each two of them: atoms, some with many figures."""
    great = 10 ** 60
    return [((0, 1), (1, 1)), ((0, -2), (1, 1)), ((0, 3), (1, 2)), ((0, 1), (2, 1)), ((0, 1), (1, 1), (2, 1)),
            ((0, 1), (1, 1), (4, 1)), ((0, -1), (1, 1)), ((0, 2), (3, 5)), ((0, great + 1), (1, great)), ((0, 1), (5, 7))]


class Examples(unittest.TestCase):
    def test_of_the_document(self):
        ruler = RULER
        flat, cubes = ((0, 1), (2, -1)), ((0, 2), (3, 2))
        self.assertEqual([quotient(((0, 1), (3, -1)), ((0, 1), (1, -1))), quotient(ruler, ((0, 1), (1, 1))),
                          quotient(((5, 6),), ((2, 2),)), divides(((0, 2),), ((0, 3),))],
                         [((0, 1), (1, 1), (2, 1)), None, ((3, 3),), False])
        self.assertEqual([common_divisor(flat, cubes), common_divisor(((3, -4), (4, 6)), ()), cofactors(flat, cubes),
                          common_divisor_of((flat, cubes, ((1, 3),)))],
                         [((0, 1), (1, 1)), ((0, -4), (1, 6)),
                          (((0, 1), (1, 1)), ((0, 1), (1, -1)), ((0, 2), (1, -2), (2, 2))), ((0, 1),)])
        x, y, n = mixing(flat, cubes)
        self.assertEqual(plus(times(x, flat), times(y, cubes)), by_number(common_divisor(flat, cubes), n))
        self.assertTrue(n > 0)
        self.assertEqual([is_nought_at(flat, -1), is_nought_at(ruler, -1)], [True, False])


class Quotients(unittest.TestCase):
    def test_of_products(self):
        rng = dice(5)
        for _ in range(120):
            step = rng.choice((1, 1, 2, 7, GREAT))
            height = rng.choice((1, 4, 10 ** 40, GREAT))
            one = along(some_row(rng, 5, 12, height), rng.randint(-GREAT, GREAT), step)
            by = along(some_row(rng, 5, 12, height), rng.randint(-9, 9), step)
            whole = times(one, by)
            self.assertEqual(quotient(whole, by), one)
            self.assertEqual(quotient(whole, one), by)
            self.assertIs(divides(by, whole), True)
            bent = plus(whole, ((whole[0][0], 1),))
            told = quotient(bent, by)
            self.assertTrue(told is None or times(told, by) == bent)
            self.assertIs(divides(by, bent), told is not None)

    def test_what_divides(self):
        self.assertEqual(quotient((), RULER), ())
        self.assertIs(divides(RULER, ()), True)
        self.assertEqual(quotient(RULER, ((7, -1),)), ((-7, -1), (-6, -1), (-3, -1)))
        self.assertIsNone(quotient(RULER, ((0, 2),)))
        self.assertIsNone(quotient(((0, 1),), UP))
        self.assertIsNone(quotient(((0, 1), (1, 3)), ((0, 1), (1, 2))))
        self.assertIsNone(quotient(((0, 3), (1, 2)), ((0, 2), (1, 1))))
        self.assertEqual(quotient(((0, -6), (GREAT, 6 * GREAT)), ((3, -6),)), ((-3, 1), (GREAT - 3, -GREAT)))
        self.assertIsNone(quotient(((0, 1), (6, 1)), ((0, 1), (4, 1))))
        self.assertIsNone(quotient(((0, 1), (2, 1)), ((0, 1), (3, 1))))
        for row in (ONE, ((5, -1),)):
            self.assertEqual(quotient(row, ((5, -1),)), ((row[0][0] - 5, -row[0][1]),))
        self.assertIs(divides(ONE, RULER) and divides(((-4, -1),), RULER), True)
        self.assertIs(divides(((0, 2),), ((0, 4), (9, -6))), True)

    def test_sixty_steps(self):
        for step in (1, 3, GREAT):
            wide = along(tuple((p, p + 1) for p in range(61)), -8, step)
            self.assertEqual(quotient(wide, wide), ONE)
            self.assertEqual(quotient(wide, ONE), wide)
            self.assertIsNone(quotient(wide, along(UP, 0, step)))
            wider = along(WIDE, 4, step)
            for call in (lambda: quotient(wider, wider), lambda: quotient((), wider), lambda: divides(wider, wide),
                         lambda: divides(UP, wider), lambda: quotient(wide, wider)):
                wanted(self, TooWide, call)
        # The step is that of both at once: 1 here, though each by itself has one of 61 or 60.
        wanted(self, TooWide, lambda: quotient(((0, 1), (61, 1)), ((0, 1), (60, 1))))
        self.assertIsNone(quotient(((0, 1), (610, 1)), ((0, 1), (61, 2))))
        self.assertIsNone(quotient(((0, 1), (60, 1)), ((0, 1), (1, 2))))

    def test_told_last(self):
        wanted(self, NotNow, lambda: quotient(WIDE, ()))
        wanted(self, NotNow, lambda: divides((), WIDE))
        wanted(self, NotNow, lambda: quotient((), ()))
        wanted(self, InvalidRow, lambda: quotient(((0, 0),), ()), index=0)
        wanted(self, InvalidRow, lambda: divides((), 5), index=None)
        wanted(self, InvalidRow, lambda: divides(((0, 1), None), 5), index=1)
        self.assertEqual(quotient(by=UP, row=UP), ONE)
        self.assertIs(divides(row=UP, by=UP), True)


class CommonDivisors(unittest.TestCase):
    def test_known_ones(self):
        rng = dice(6)
        parts = bare_parts()
        for _ in range(80):
            chosen = [rng.choice(parts) for _ in range(3)]
            lots = rng.sample(parts, 6)
            one, other = all_times(lots[:2]), all_times(lots[2:4])
            shared = all_times(chosen)
            k, m, n = rng.choice((1, 2, -6, GREAT)), rng.choice((1, 3, -5)), rng.choice((1, 4, -7))
            step, shift = rng.choice((1, 5, GREAT)), rng.randint(-99, 99)
            a = along(by_number(times(one, shared), k * m), shift, step)
            b = along(by_number(times(other, shared), k * n), -shift, step)
            told = root(along(by_number(shared, k), 0, step))
            self.assertEqual(common_divisor(a, b), told)
            self.assertEqual(common_divisor(b, a), told)
            self.assertEqual(cofactors(a, b), (told, quotient(a, told), quotient(b, told)))
            self.assertEqual(common_divisor_of((a, b)), told)

    def test_with_nought_and_numbers(self):
        self.assertEqual(common_divisor((), ()), ())
        self.assertEqual(common_divisor((), ((3, -2), (5, -4))), ((0, 2), (2, 4)))
        self.assertEqual(common_divisor(((4, -6),), ((0, 4), (1, 10))), ((0, 2),))
        self.assertEqual(common_divisor(((4, -6),), ((9, 15),)), ((0, 3),))
        self.assertEqual(common_divisor(((0, 6), (1, 6)), ((0, 4), (1, -4))), ((0, 2),))
        self.assertEqual(common_divisor_of(((),)), ())
        self.assertEqual(common_divisor_of(((), (), ())), ())
        self.assertEqual(common_divisor_of((((2, -3),),)), ((0, 3),))
        self.assertEqual(common_divisor_of(((), ((2, -3), (4, 6)), ())), ((0, -3), (2, 6)))

    def test_values_with_much_in_common(self):
        rising, higher = ONE, ONE
        for k in range(12):
            rising, higher = times(rising, ((0, k), (1, 1)) if k else ((1, 1),)), times(higher, ((0, k + 12), (1, 1)))
        self.assertEqual(common_divisor(rising, higher), ONE)
        self.assertEqual(common_divisor(times(rising, UP), times(higher, UP)), UP)
        # The value of the former divides that of the latter at the point that is tried first.
        far = 2 ** 42 + 1
        self.assertEqual(common_divisor(UP, ((0, far), (2, 1))), ONE)
        self.assertEqual(common_divisor(((0, far), (2, 1)), UP), ONE)
        twos = ((0, 2 ** 300), (1, 2 ** 150), (2, 1)), ((0, 2 ** 300), (1, 2 ** 151), (2, 1))
        self.assertEqual(common_divisor(*twos), ONE)

    def test_of_several(self):
        rows = tuple(all_times((UP, part)) for part in bare_parts()[1:9])
        self.assertEqual(common_divisor_of(rows), UP)
        self.assertEqual(common_divisor_of(rows[:3] + (ONE,)), ONE)
        far = tuple(along(row, GREAT, GREAT) for row in rows)
        self.assertEqual(common_divisor_of(far), along(UP, 0, GREAT))
        wanted(self, InvalidRows, lambda: common_divisor_of(()), index=None)
        wanted(self, InvalidRows, lambda: common_divisor_of((UP,) * 9), index=None)
        wanted(self, InvalidRows, lambda: common_divisor_of((5,) * 9), index=None)
        for value in NOT_TUPLES:
            wanted(self, InvalidRows, lambda value=value: common_divisor_of(value), index=None)
        for value, _ in WRONG_ROWS:
            wanted(self, InvalidRows, lambda value=value: common_divisor_of((UP, WIDE, value, None)), index=2)

    def test_too_wide(self):
        wide = tuple((p, 1) for p in range(61))
        self.assertEqual(common_divisor(wide, ((0, 1), (60, -1))), ONE)
        for call in (lambda: common_divisor(WIDE, ()), lambda: common_divisor((), WIDE),
                     lambda: common_divisor(((0, 1), (61, 1)), ((0, 1), (60, 1))),
                     lambda: cofactors(WIDE, ONE), lambda: mixing(ONE, WIDE), lambda: common_divisor_of((WIDE,)),
                     lambda: common_divisor_of((((0, 1), (7 * 61, 1)), (), ((0, 1), (7, 1), (14, 1)))),
                     lambda: common_divisor_of((((0, 1), (100, 1)), ((0, 1), (3, 1)), ONE))):
            wanted(self, TooWide, call)
        self.assertEqual(common_divisor_of((((0, 1), (7 * 60, -1)), (), ((0, 1), (14, -1)))), ((0, -1), (14, 1)))

    def test_told_last(self):
        for call in (cofactors, mixing):
            wanted(self, NotNow, lambda call=call: call((), ()))
            wanted(self, TooWide, lambda call=call: call((), WIDE))
            wanted(self, InvalidRow, lambda call=call: call((), ((0, 0),)), index=0)
            wanted(self, InvalidRow, lambda call=call: call(WIDE + (1,), None), index=3)
        for call in (quotient, divides, common_divisor, cofactors, mixing):
            refuses_wrong_rows(self, InvalidRow, lambda value, call=call: call(value, WIDE))
            refuses_wrong_rows(self, InvalidRow, lambda value, call=call: call(WIDE, value))


class GoingBack(unittest.TestCase):
    def holds(self, one, other):
        x, y, n = mixing(one, other)
        self.assertTrue(n > 0)
        shared = common_divisor(one, other)
        self.assertEqual(plus(times(x, one), times(y, other)), by_number(shared, n))
        u, v, w = cofactors(one, other)
        self.assertEqual((u, times(u, v), times(u, w)), (shared, one, other))
        both = plus(times(x, v), times(y, w))
        self.assertEqual((len(both), both[0][1]), (1, n))

    def test_mixing(self):
        rng = dice(7)
        for _ in range(120):
            height = rng.choice((1, 3, 50, 10 ** 40))
            rows = [some_row(rng, rng.randint(1, 5), rng.randint(0, 8), height) for _ in range(3)]
            step = rng.choice((1, 6, GREAT))
            one = along(times(rows[0], rows[1]), rng.randint(-GREAT, GREAT), step)
            other = along(times(rows[0], rows[2]), rng.randint(-5, 5), step)
            self.holds(one, other)

    def test_ends(self):
        for one, other in ((((3, -4),), ((7, 6),)), ((), ((2, -3), (5, 1))), (((2, -3), (5, 1)), ()), (((9, -1),), ()),
                           (UP, UP), (UP, by_number(UP, -5)), (((4, 12),), UP), (UP, ((4, -12),)),
                           (((0, 2), (1, 2)), ((0, 3), (1, -3))), (((0, 1), (60, 1)), ((0, 2), (1, 1))),
                           (((0, 1), (59, 5)), ((0, -7), (60, 1))), (((0, GREAT), (9, 1)), ((0, 1), (9, GREAT)))):
            self.holds(one, other)

    def test_greater_ones(self):
        rng = dice(8)
        one = tuple((p, rng.randint(1, 99)) for p in range(41))
        other = tuple((p, -rng.randint(1, 99)) for p in range(38))
        self.holds(one, other)
        one = tuple((p, rng.randint(1, GREAT)) for p in range(9))
        other = tuple((p, rng.randint(1, GREAT)) for p in range(9))
        self.holds(one, other)
        x, y, n = mixing(one, other)
        self.assertEqual(read_row(row_text(x)), x)
        self.assertEqual(content(multiple(y, n)), content(y) * n)
        self.assertEqual(quotient(product(x, y), y), x)


class Noughts(unittest.TestCase):
    def test_is_nought_at(self):
        for k in (1, -1, 2, -7, 1000, -1000):
            line = ((0, -k), (1, 1))
            for part in bare_parts():
                row = along(times(line, part), -3)
                self.assertIs(is_nought_at(row, k), True)
                self.assertIs(is_nought_at(part, k), divides(line, part))
                self.assertEqual(value_at(part, k)[0] == 0, is_nought_at(part, k))
        self.assertIs(is_nought_at((), 9), True)
        self.assertIs(is_nought_at(row=((-400, 1), (400, -1)), number=-1), True)
        self.assertIs(is_alike(UP, UP), True)

    def test_refusals(self):
        refuses_wrong_rows(self, InvalidRow, lambda value: is_nought_at(value, 0))
        refuses_not_whole(self, InvalidWhole, lambda value: is_nought_at(((401, 1),), value))
        for number in (0, 1001, -1001):
            wanted(self, InvalidWhole, lambda number=number: is_nought_at(RULER, number), given=number)
        for row in (((401, 1),), ((-401, 1), (0, 1))):
            wanted(self, TooWide, lambda row=row: is_nought_at(row, 1))


if __name__ == "__main__":
    unittest.main()
