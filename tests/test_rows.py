"""[4] to [9], [A1], [A2], [A5] and rows.py."""

import unittest
from fractions import Fraction

from samegaps.errors import InvalidHeap, InvalidPlaces, InvalidRow, InvalidWhole, TooMany, TooWide
from samegaps.rows import added, bare, content, count, heap_of, is_alike, is_heap, is_plain, is_row, is_shifted, less
from samegaps.rows import marks_in, mirrored, multiple, product, root, shifted, spread, step, value_at, weight_at
from samples import FOUR_HUNDRED, GREAT, MIXED, NOT_TUPLES, NOT_WHOLE, RULER, WRONG_ROWS, Odd, back, by_number, dice
from samples import nested, plus, refuses_not_whole, refuses_wrong_rows, some_row, times, wanted

ONE_ROW = [count, spread, step, mirrored, root, content, bare]
TWO_ROWS = [step, added, less, product, is_shifted, is_alike]


class Examples(unittest.TestCase):
    def test_of_the_document(self):
        ruler, mixed = ((0, 1), (1, 1), (4, 1)), ((-1, 2), (3, -4))
        self.assertEqual([is_row(ruler), is_row(((1, 1), (0, 1))), is_heap(mixed), is_plain(ruler),
                          is_row(((0, True),)), is_row(((0, 0),))], [True, False, False, True, False, False])
        self.assertEqual([count(ruler), spread(mixed), step(ruler), step(mixed), step(mixed, ((0, 1), (6, 1))),
                          weight_at(mixed, 3), heap_of((4, 0, 4)), marks_in(((0, 1), (4, 2)))],
                         [3, 4, 1, 4, 2, -4, ((0, 1), (4, 2)), (0, 4, 4)])
        self.assertEqual([added(ruler, ((1, -1), (2, 5))), less(ruler, ruler), multiple(mixed, -2),
                          shifted(mixed, 1), mirrored(mixed)],
                         [((0, 1), (2, 5), (4, 1)), (), ((-1, -4), (3, 8)), ((0, 2), (4, -4)), ((-3, -4), (1, 2))])
        self.assertEqual([product(((0, 1), (1, 1)), ((0, 1), (1, -1))), product(mixed, ((2, 3),)), root(mixed),
                          content(mixed), bare(mixed)],
                         [((0, 1), (2, -1)), ((1, 6), (5, -12)), ((0, -2), (4, 4)), 2, ((0, -1), (4, 2))])
        self.assertEqual([is_alike(mixed, ((7, -1), (11, 2))), is_alike(bare(mixed), ((7, 1), (11, -2))),
                          is_shifted(ruler, ((5, 1), (6, 1), (9, 1)))], [False, True, True])
        self.assertEqual([value_at(ruler, 2), value_at(mixed, 2), value_at(mixed, -1), value_at(((-2, 3),), 2),
                          value_at((), 5)], [(19, 1), (-31, 1), (2, 1), (3, 4), (0, 1)])


class Kinds(unittest.TestCase):
    def test_is_row(self):
        for row in ((), RULER, MIXED, FOUR_HUNDRED, ((-GREAT, GREAT), (GREAT, -GREAT))):
            self.assertIs(is_row(row), True)
        for value, _ in WRONG_ROWS:
            for asked in (is_row, is_heap, is_plain):
                self.assertIs(asked(value), False)

    def test_is_heap_and_is_plain(self):
        for row, heap, plain in (((), True, True), (RULER, True, True), (MIXED, False, False),
                                 (((0, 2),), True, False), (((0, -1),), False, False),
                                 (((-5, 1), (GREAT, GREAT)), True, False), (((3, 1), (4, -1)), False, False),
                                 (FOUR_HUNDRED, True, False), (tuple((p, 1) for p in range(400)), True, True)):
            self.assertIs(is_heap(row), heap)
            self.assertIs(is_plain(row), plain)

    def test_by_name(self):
        self.assertTrue(is_row(value=()) and is_heap(value=()) and is_plain(value=()))
        self.assertEqual(step(row=RULER, other=MIXED), 1)
        self.assertEqual(product(other=RULER, row=()), ())
        self.assertEqual(value_at(number=1, row=RULER), (3, 1))
        self.assertEqual(shifted(shift=-1, row=((1, 2),)), ((0, 2),))
        self.assertEqual(multiple(number=2, row=((1, 2),)), ((1, 4),))
        self.assertEqual(weight_at(place=1, row=((1, 2),)), 2)
        self.assertEqual(heap_of(places=(1,)), ((1, 1),))
        self.assertEqual(marks_in(heap=((1, 1),)), (1,))


class Marks(unittest.TestCase):
    def test_there_and_back(self):
        rng = dice(1)
        for _ in range(50):
            places = tuple(rng.randint(-20, 20) for _ in range(rng.randint(0, 60)))
            heap = heap_of(places)
            self.assertTrue(is_heap(heap))
            self.assertEqual(marks_in(heap), tuple(sorted(places)))
        self.assertEqual(heap_of(()), ())
        self.assertEqual(marks_in(()), ())
        self.assertEqual(heap_of((GREAT, -GREAT, GREAT)), ((-GREAT, 1), (GREAT, 2)))

    def test_bounds_of_heap_of(self):
        self.assertEqual(heap_of((7,) * 1000), ((7, 1000),))
        self.assertEqual(len(heap_of(tuple(range(400)) + (0,) * 600)), 400)
        wanted(self, InvalidPlaces, lambda: heap_of((7,) * 1001), index=None)
        wanted(self, InvalidPlaces, lambda: heap_of((None,) * 1001), index=None)
        wanted(self, TooMany, lambda: heap_of(tuple(range(401))))
        wanted(self, InvalidPlaces, lambda: heap_of(tuple(range(450)) + (None,)), index=450)
        for value in NOT_TUPLES:
            wanted(self, InvalidPlaces, lambda value=value: heap_of(value), index=None)
        for value in NOT_WHOLE:
            wanted(self, InvalidPlaces, lambda value=value: heap_of((3, 1, value, None)), index=2)

    def test_bounds_of_marks_in(self):
        self.assertEqual(marks_in(((3, 1000),)), (3,) * 1000)
        self.assertEqual(len(marks_in(tuple((p, 2) for p in range(400)))), 800)
        for heap in (((3, 1001),), ((0, 1), (1, 1000)), ((0, GREAT),), MIXED, ((0, -1),)):
            wanted(self, InvalidHeap, lambda heap=heap: marks_in(heap), given=heap)
        for value, _ in WRONG_ROWS:
            wanted(self, InvalidHeap, lambda value=value: marks_in(value), given=value)


class Reckoning(unittest.TestCase):
    def rows(self):
        rng = dice(2)
        for _ in range(60):
            height = rng.choice((1, 3, 1000, GREAT))
            yield tuple(shifted(some_row(rng, rng.randint(0, 6), 12, height), rng.randint(-9, 9)) for _ in range(3))
        yield ((), (), ())
        yield (RULER, MIXED, ())
        yield (((0, 1),), ((5, -1),), ((-GREAT, GREAT),))

    def test_sums(self):
        for a, b, c in self.rows():
            self.assertEqual(added(a, b), plus(a, b))
            self.assertEqual(added(added(a, b), c), added(a, added(c, b)))
            self.assertEqual(less(a, b), plus(a, by_number(b, -1)))
            self.assertEqual(added(less(a, b), b), a)
            self.assertEqual(less(a, a), ())
            self.assertEqual(less((), a), multiple(a, -1))
            self.assertEqual(less(a, ()), a)

    def test_products(self):
        for a, b, c in self.rows():
            self.assertEqual(product(a, b), times(a, b))
            self.assertEqual(product(a, b), product(b, a))
            self.assertEqual(product(product(a, b), c), product(a, product(b, c)))
            self.assertEqual(product(a, added(b, c)), added(product(a, b), product(a, c)))
            self.assertEqual(product(a, ((0, 1),)), a)
            self.assertEqual(product(a, ()), ())
            self.assertEqual(count(product(a, b)), count(a) * count(b))
            self.assertEqual(content(product(a, b)), content(a) * content(b))
            self.assertEqual(product(a, b) == (), a == () or b == ())
            if a and b:
                self.assertEqual(spread(product(a, b)), spread(a) + spread(b))
                self.assertEqual(product(a, b)[0][0], a[0][0] + b[0][0])
            for number in (1, 2, -3, 5):
                one, two, both = (Fraction(*value_at(row, number)) if max([abs(p) for p, _ in row], default=0) < 99
                                  else None for row in (a, b, product(a, b)))
                if None not in (one, two, both):
                    self.assertEqual(both, one * two)

    def test_multiples_shifts_mirrors(self):
        for a, b, _ in self.rows():
            self.assertEqual(multiple(a, 0), ())
            self.assertEqual(multiple(a, -GREAT), by_number(a, -GREAT))
            self.assertEqual(shifted(a, GREAT), product(a, ((GREAT, 1),)))
            self.assertEqual(shifted(shifted(a, -4), 4), a)
            self.assertEqual(mirrored(a), back(a))
            self.assertEqual(mirrored(mirrored(a)), a)
            self.assertEqual(mirrored(product(a, b)), product(mirrored(a), mirrored(b)))

    def test_roots_and_contents(self):
        for a, b, _ in self.rows():
            one = root(a)
            self.assertTrue(one == () or (one[0][0] == 0 and one[-1][1] > 0))
            self.assertEqual(multiple(bare(a), content(a)), one)
            self.assertEqual(content(bare(a)), 1 if a else 0)
            for alike in (shifted(a, 5), multiple(a, -1), shifted(multiple(a, -1), -GREAT)):
                self.assertEqual(root(alike), one)
                self.assertIs(is_alike(a, alike), True)
            self.assertIs(is_shifted(a, shifted(a, -11)), True)
            self.assertIs(is_shifted(a, multiple(a, -1)), a == ())
            self.assertIs(is_alike(a, b), root(a) == root(b))
            self.assertIs(is_alike(a, multiple(a, 2)), a == ())
        self.assertEqual(content(((0, 6), (1, -9), (2, 15))), 3)
        self.assertEqual(bare(((4, -6), (7, -9))), ((0, 2), (3, 3)))

    def test_numbers_told_of_rows(self):
        self.assertEqual([count(()), spread(()), step(()), content(()), root(()), bare(())], [0, 0, 0, 0, (), ()])
        self.assertEqual([count(((0, 3), (1, -3))), spread(((-GREAT, 1), (GREAT, 1)))], [0, 2 * GREAT])
        self.assertEqual([step(((5, 1),)), step(((5, 1),), ((7, 1),)), step((), ((1, 1), (9, 1)))], [0, 0, 8])
        self.assertEqual(step(((1, 1), (1 + 6 * GREAT, 1)), ((0, 1), (4 * GREAT, 2))), 2 * GREAT)
        self.assertEqual(step(((0, 1), (6, 1), (10, 1))), 2)
        self.assertEqual([weight_at(RULER, p) for p in (-1, 0, 1, 2, 4, GREAT)], [0, 1, 1, 0, 1, 0])
        self.assertEqual(weight_at((), 0), 0)

    def test_four_hundred_pairs(self):
        more = ((-8, 1),)
        self.assertEqual(len(added(FOUR_HUNDRED, ((-7, 5),))), 400)
        self.assertEqual(len(added(FOUR_HUNDRED, ((-8, 1), (-7, -1)))), 400)
        self.assertEqual(less(FOUR_HUNDRED, FOUR_HUNDRED), ())
        self.assertEqual(product(FOUR_HUNDRED, ((1, -2),)), shifted(multiple(FOUR_HUNDRED, -2), 1))
        for call in (lambda: added(FOUR_HUNDRED, more), lambda: less(more, FOUR_HUNDRED),
                     lambda: product(FOUR_HUNDRED, ((0, 1), (1, 1))), lambda: product(FOUR_HUNDRED, FOUR_HUNDRED)):
            wanted(self, TooMany, call)
        flat = tuple((p, 1) for p in range(400))
        self.assertEqual(product(flat, ((0, 1), (1, -1))), ((0, 1), (400, -1)))
        self.assertEqual(len(product(flat[:200], flat[:201])), 400)
        wanted(self, TooMany, lambda: product(flat[:201], flat[:201]))


class Values(unittest.TestCase):
    def told(self, row, number):
        value = sum((Fraction(number) ** place * weight for place, weight in row), Fraction(0))
        return (value.numerator, value.denominator)

    def test_values(self):
        rng = dice(3)
        for _ in range(60):
            row = shifted(some_row(rng, 5, 20, rng.choice((3, 10 ** 30))), rng.randint(-25, 10))
            for number in (1, -1, 2, -3, 6, 1000, -1000, rng.randint(2, 999)):
                self.assertEqual(value_at(row, number), self.told(row, number))
        for row in (((-400, 6), (400, 1)), ((-400, -GREAT),), ((400, GREAT),)):
            for number in (1000, -1000, 2, -1):
                self.assertEqual(value_at(row, number), self.told(row, number))
        self.assertEqual(value_at(((-3, 8),), -2), (-1, 1))
        self.assertEqual(value_at(((-1, 1), (0, -2)), 4), (-7, 4))

    def test_bounds(self):
        for number in (0, 1001, -1001, GREAT, -GREAT):
            wanted(self, InvalidWhole, lambda number=number: value_at(RULER, number), given=number)
        refuses_not_whole(self, InvalidWhole, lambda number: value_at(RULER, number))
        for row in (((-401, 1),), ((401, 1),), ((-401, 1), (0, 1)), ((0, 1), (401, 1)), ((0, 1), (GREAT, 1))):
            wanted(self, TooWide, lambda row=row: value_at(row, 3))
            wanted(self, InvalidWhole, lambda row=row: value_at(row, 0), given=0)
        wanted(self, InvalidWhole, lambda: value_at((), 0), given=0)


class Refusals(unittest.TestCase):
    def test_rows(self):
        for call in ONE_ROW:
            refuses_wrong_rows(self, InvalidRow, call)
        for call in TWO_ROWS:
            refuses_wrong_rows(self, InvalidRow, lambda value, call=call: call(value, RULER))
            refuses_wrong_rows(self, InvalidRow, lambda value, call=call: call(RULER, value))
            wanted(self, InvalidRow, lambda call=call: call(((0, 1), 5), None), index=1)
        for call in (weight_at, multiple, shifted, value_at):
            refuses_wrong_rows(self, InvalidRow, lambda value, call=call: call(value, 1))
            wanted(self, InvalidRow, lambda call=call: call(((0, 0),), None), index=0)

    def test_whole_numbers(self):
        for call in (weight_at, multiple, shifted):
            refuses_not_whole(self, InvalidWhole, lambda value, call=call: call(RULER, value))
            for number in (0, GREAT, -GREAT):
                call(RULER, number)

    def test_arguments_stay(self):
        odd = [Odd(), [1], {1: 2}, nested(20)]
        for value in odd:
            self.assertIs(is_row(value), False)
        self.assertEqual(odd[1:], [[1], {1: 2}, nested(20)])


if __name__ == "__main__":
    unittest.main()
