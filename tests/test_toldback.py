"""[D1], [D2] and toldback.py."""

import unittest
from itertools import product

from samegaps.errors import InvalidRow, NotNow, TooLong, TooMany
from samegaps.gaps import differences
from samegaps.rows import is_heap, root
from samegaps.toldback import all_heaps, all_rows, heaps_with, is_only, row_with, rows_with
from samples import GREAT, RULER, all_times, along, back, by_number, dice, refuses_wrong_rows, times, wanted

ONE = ((0, 1),)
DOWN = ((0, -1), (1, 1))
UP = ((0, 1), (1, 1))
# Atoms, and those of them that are alike with their mirrored ones.
LEFT = [((0, 1), (1, 2)), ((0, -2), (1, 3)), RULER, ((0, 1), (1, 10 ** 50)), ((0, 2), (1, 4), (3, 1))]
MIDDLE = [DOWN, UP, ((0, 1), (4, 1)), ((0, 2), (1, -3), (2, 2)), ((0, 1), (1, 1), (2, 1))]


def far(atom):
    """The mirrored one, from 0 on, ending above 0."""
    row = along(back(atom), atom[-1][0])
    return row if row[-1][1] > 0 else by_number(row, -1)


def gaps(row):
    """The differences, by the test's own product."""
    return times(row, back(row))


def small_roots(spread, squares):
    """All rows from 0 to the spread, ending above 0, of which the squared weights sum up to so much at most."""
    height = max(k for k in range(squares + 1) if k * k <= squares)
    for weights in product(range(-height, height + 1), repeat=spread + 1):
        if weights[0] != 0 and weights[-1] > 0 and sum(w * w for w in weights) <= squares:
            yield tuple((p, w) for p, w in enumerate(weights) if w)


def by_differences():
    """All small roots, those with the same differences together; no other row has them."""
    found = {}
    for spread, squares in ((0, 20), (1, 80), (2, 40), (3, 17), (4, 11), (5, 7)):
        for row in small_roots(spread, squares):
            found.setdefault(gaps(row), []).append(row)
    return found


class Examples(unittest.TestCase):
    def test_of_the_document(self):
        one = ((0, 2), (1, 7), (2, 3))
        self.assertEqual(all_rows(one), (((0, 1), (1, 5), (2, 6)), ((0, 2), (1, 7), (2, 3)), ((0, 3), (1, 7), (2, 2)),
                                         ((0, 6), (1, 5), (2, 1))))
        self.assertEqual([all_heaps(one) == all_rows(one), is_only(one), is_only(((0, 1), (1, 2))),
                          rows_with(differences(one)) == all_rows(one), row_with(((-1, 1), (0, 1), (1, 1))),
                          rows_with(())], [True, False, True, True, None, ((),)])
        self.assertEqual([all_rows(((0, 1), (1, 1), (3, -2))), heaps_with(((-1, -1), (0, 2), (1, -1)))],
                         [(((0, -2), (2, 1), (3, 1)), ((0, -1), (1, -1), (3, 2))), ()])

    def test_by_hand(self):
        told = sorted(times(a, b) for a in (((0, 2), (1, 1)), UP[:1] + ((1, 2),)) for b in (((0, 1), (1, 3)),
                                                                                         ((0, 3), (1, 1))))
        self.assertEqual(all_rows(((0, 2), (1, 7), (2, 3))), tuple(told))
        self.assertEqual(times(((0, 1), (1, -1)), ((0, 1), (1, 2), (2, 2))), ((0, 1), (1, 1), (3, -2)))


class SmallRows(unittest.TestCase):
    def test_beside_a_search(self):
        found = by_differences()
        self.assertTrue(len([rows for rows in found.values() if len(rows) > 2]) > 10)
        for told, rows in found.items():
            rows = tuple(sorted(rows))
            heaps = tuple(row for row in rows if min(w for _, w in row) > 0)
            self.assertEqual(rows_with(told), rows)
            self.assertEqual(heaps_with(told), heaps)
            self.assertIn(row_with(told), rows)
            row = rows[len(told) % len(rows)]
            self.assertEqual(all_rows(row), rows)
            self.assertEqual(all_heaps(row), heaps)
            self.assertIs(is_only(row), all(other in (row, far(row)) for other in rows))

    def test_nobodys_beside_a_search(self):
        found = by_differences()
        nobodys = 0
        for side in product(range(-3, 4), repeat=2):
            for middle in range(-2, 12):
                told = tuple((p, w) for p, w in zip(range(-2, 3), (*side, middle, *side[::-1])) if w)
                self.assertEqual(rows_with(told), tuple(sorted(found.get(told, ()))) if told else ((),))
                self.assertEqual(row_with(told) is None, told not in found and told != ())
                nobodys += told not in found
        self.assertTrue(nobodys > 500)


class Turning(unittest.TestCase):
    def rows(self):
        """Products of known atoms, each so often, and how many rows have the differences of each."""
        rng = dice(51)
        for _ in range(45):
            lots = {}
            for atom in rng.sample(LEFT, rng.randint(0, 3)):
                lots[atom] = rng.randint(0, 2)
                lots[far(atom)] = rng.randint(0, 2)
            for atom in rng.sample(MIDDLE, rng.randint(0, 2)):
                lots[atom] = rng.randint(1, 3)
            row = all_times([atom for atom, many in lots.items() for _ in range(many)])
            row = along(by_number(row, rng.choice((1, -1, 6, -GREAT))), rng.choice((0, 5, -GREAT)))
            pairs = [(lots.get(atom, 0), lots.get(far(atom), 0)) for atom in LEFT]
            yield row, pairs

    def test_as_many_as_told(self):
        seen = set()
        for row, pairs in self.rows():
            many = 1
            for often, more in pairs:
                many = many * (often + more + 1)
            told = all_rows(row)
            self.assertEqual(len(told), many)
            self.assertEqual(len(set(told)), many)
            self.assertEqual(told, tuple(sorted(told)))
            self.assertIn(root(row), told)
            self.assertIn(root(back(row)), told)
            for other in told:
                self.assertEqual(root(other), other)
                self.assertEqual(gaps(other), gaps(row))
            self.assertEqual(all_heaps(row), tuple(other for other in told if is_heap(other)))
            self.assertIs(is_only(row), sum(often + more for often, more in pairs) <= 1)
            self.assertEqual(rows_with(gaps(row)), told)
            self.assertEqual(heaps_with(gaps(row)), all_heaps(row))
            self.assertIn(row_with(gaps(row)), told)
            seen.add(many)
        self.assertTrue(len(seen) > 8)

    def test_shares(self):
        # Alike ones beside their mirrored ones: j of them may be turned.
        low, high = ((0, 1), (1, 2)), ((0, 2), (1, 1))
        told = tuple(sorted(all_times([low] * j + [high] * (4 - j)) for j in range(5)))
        for j in range(5):
            self.assertEqual(all_rows(all_times([low] * j + [high] * (4 - j))), told)
        self.assertIs(is_only(times(low, high)), False)
        self.assertIs(is_only(times(low, low)), False)
        self.assertIs(is_only(all_times([low, UP, UP, DOWN])), True)
        self.assertIs(is_only(all_times(MIDDLE)), True)

    def test_only(self):
        for row in (ONE, ((7, -12),), UP, by_number(RULER, -GREAT), along(RULER, -3), ((0, 1), (60, 1))):
            self.assertIs(is_only(row), True)
        self.assertIs(is_only(row=times(RULER, LEFT[0])), False)
        self.assertEqual(all_rows(row=((7, -12),)), (((0, 12),),))
        self.assertEqual(all_heaps(row=((7, -12),)), (((0, 12),),))
        self.assertEqual(all_rows(RULER), (RULER, ((0, 1), (3, 1), (4, 1))))
        # Rows with weights below 0 may share differences with heaps, and heaps with none.
        row = times(((0, 1), (1, -1), (2, 2)), ((0, 1), (1, 2)))
        self.assertEqual([is_heap(other) for other in all_rows(row)].count(True), len(all_heaps(row)))
        self.assertEqual(all_heaps(times(DOWN, RULER)), ())

    def test_heaps_only(self):
        # 2 + x + x x + 6 x x x is (2 + 3 x)(1 - x + 2 x x), but 4 + 4 x - x x + 3 x x x is (2 + 3 x)(2 - x + x x).
        row, other = ((0, 2), (1, 1), (2, 1), (3, 6)), ((0, 4), (1, 4), (2, -1), (3, 3))
        rows = (row, ((0, 3), (1, -1), (2, 4), (3, 4)), other, ((0, 6), (1, 1), (2, 1), (3, 2)))
        for one in rows:
            self.assertEqual(all_rows(one), rows)
            self.assertEqual(all_heaps(one), (rows[0], rows[3]))
            self.assertIs(is_only(one), False)
        self.assertEqual(rows_with(gaps(row)), rows)
        self.assertEqual(heaps_with(gaps(other)), (rows[0], rows[3]))


class ManyAndLong(unittest.TestCase):
    def lots(self, numbers):
        """A product of unlike atoms, not alike with their mirrored ones, each as often as told."""
        return all_times([((0, k + 1), (1, k + 2)) for k, many in enumerate(numbers) for _ in range(many)])

    def test_two_hundred(self):
        row = self.lots((24, 1, 1, 1))
        self.assertEqual(len(all_rows(row)), 200)
        self.assertEqual(len(all_heaps(row)), 200)
        self.assertIs(is_only(row), False)
        self.assertEqual(len(rows_with(gaps(row))), 200)
        self.assertEqual(len(heaps_with(gaps(row))), 200)
        for numbers in ((28, 6), (50, 3), (1, 1, 1, 1, 1, 1, 1, 1), (40, 4)):
            row = self.lots(numbers)
            for call in (all_rows, all_heaps, is_only):
                wanted(self, TooMany, lambda call=call: call(row))
        # Alike ones and mirrored ones count together: 15 times 14, 20 times 10.
        mixed = times(self.lots((9, 4)), back(self.lots((5, 9))))
        wanted(self, TooMany, lambda: all_rows(mixed))
        self.assertEqual(len(all_rows(times(self.lots((9, 2)), back(self.lots((10, 7)))))), 200)
        row = self.lots((6, 1, 1, 1, 1, 1))
        told = gaps(row)
        for call in (rows_with, heaps_with):
            wanted(self, TooMany, lambda call=call: call(told))
        self.assertEqual(gaps(row_with(told)), told)
        # All rows count, though no heap is among them.
        wanted(self, TooMany, lambda: all_heaps(times(DOWN, row)))
        wanted(self, TooMany, lambda: heaps_with(gaps(times(DOWN, row))))

    def test_nobodys_are_not_counted(self):
        told = times(gaps(self.lots((6, 1, 1, 1, 1, 1))), ((-1, 1), (0, 3), (1, 1)))
        self.assertEqual([rows_with(told), heaps_with(told), row_with(told)], [(), (), None])

    def test_long_ones(self):
        sixty = ((-30, 1), (0, 3), (30, 1))
        self.assertIsNone(row_with(sixty))
        self.assertEqual(rows_with(sixty), ())
        half = ((0, 2), (30, 1))
        self.assertEqual(rows_with(gaps(half)), (((0, 1), (30, 2)), half))
        self.assertEqual(row_with(told=gaps(UP)), UP)
        self.assertEqual(rows_with(told=gaps(UP)), (UP,))
        self.assertEqual(heaps_with(told=gaps(UP)), (UP,))
        for told in (((-31, 1), (0, 2), (31, 1)), ((-31, 1), (0, 3), (30, 1)), ((0, 1), (61, -1))):
            for call in (row_with, rows_with, heaps_with):
                wanted(self, TooLong, lambda call=call, told=told: call(told))
        long = ((0, 1), (1, 1), (60, 1))
        self.assertEqual(all_rows(along(long, -70)), (long, ((0, 1), (59, 1), (60, 1))))
        for call in (all_rows, all_heaps, is_only):
            wanted(self, TooLong, lambda call=call: call(((-30, 1), (0, 1), (31, 1))))
            wanted(self, TooLong, lambda call=call: call(times(((0, 1), (1, 2), (50, 1)), self.lots((28, 6)))))


class Nobodys(unittest.TestCase):
    def refused(self, told):
        self.assertIsNone(row_with(told))
        self.assertEqual(rows_with(told), ())
        self.assertEqual(heaps_with(told), ())

    def test_each_condition_alone(self):
        rows = [UP, RULER, times(UP, RULER), by_number(times(LEFT[1], LEFT[3]), 5)]
        for row in rows:
            told = gaps(row)
            self.assertIsNotNone(row_with(told))
            # Shifted: not its own mirrored one.
            self.refused(along(told, 1))
            self.refused(along(told, -GREAT))
            # The wrong sign.
            self.refused(by_number(told, -1))
            # A content that is no square.
            self.refused(by_number(told, 2))
            self.refused(by_number(told, GREAT * GREAT + 1))
            self.assertEqual(row_with(by_number(told, GREAT * GREAT)), by_number(row_with(told), GREAT))
            # An atom alike with its mirrored one an odd number of times, of an even spread: the same from both ends.
            for atom in MIDDLE[2:]:
                self.refused(along(times(told, atom), -atom[-1][0] // 2))
            # 1 + x just once: then it is its own mirrored one for no shift.
            self.refused(times(told, UP))
            self.refused(along(all_times([told, UP, DOWN]), -1))
            # -1 + x just twice, but with the other sign.
            self.refused(along(all_times([told, DOWN, DOWN]), -1))
            self.assertIsNotNone(row_with(by_number(along(all_times([told, DOWN, DOWN]), -1), -1)))

    def test_unlike_numbers_of_mirrored_ones(self):
        # Such ones are their own mirrored ones for no factors; so the numbers are unlike without that, too.
        for told in (times(RULER, UP), all_times([RULER, RULER, far(RULER)]), along(times(RULER, RULER), -4)):
            self.refused(told)
        self.assertEqual(row_with(along(times(RULER, far(RULER)), -4)) in (RULER, far(RULER)), True)

    def test_nought(self):
        self.assertEqual([row_with(()), rows_with(()), heaps_with(())], [(), ((),), ((),)])

    def test_one_pair(self):
        self.assertEqual([row_with(((0, 9),)), rows_with(((0, 9),)), heaps_with(((0, 9),))],
                         [((0, 3),), (((0, 3),),), (((0, 3),),)])
        for told in (((0, -9),), ((0, 8),), ((1, 9),), ((0, -1),), ((-GREAT, 4),)):
            self.refused(told)


class Refusals(unittest.TestCase):
    def test_rows(self):
        for call in (all_rows, all_heaps, is_only, row_with, rows_with, heaps_with):
            refuses_wrong_rows(self, InvalidRow, call)
        for call in (all_rows, all_heaps, is_only):
            wanted(self, NotNow, lambda call=call: call(()))


if __name__ == "__main__":
    unittest.main()
