"""[F2], [F6], [F9] and shortest.py."""

import unittest
from itertools import combinations

from samegaps.errors import InvalidNumber
from samegaps.growing import prime_ruler, with_next
from samegaps.rulers import gaps_of, is_complete, is_ruler, measured
from samegaps.shortest import rulers_of, shortest_length, shortest_rulers, window_least
from samples import GREAT, NOT_WHOLE, are_ruler, dice, small_primes, wanted


def searched(many, length):
    """All rulers of so many marks from 0 to the length, by looking at all marks there."""
    if many == 1:
        return ((0,),) if length == 0 else ()
    if length == 0:
        return ()
    told = [(0, *inner, length) for inner in combinations(range(1, length), many - 2)]
    return tuple(marks for marks in told if are_ruler(marks))


class Examples(unittest.TestCase):
    def test_of_the_document(self):
        self.assertEqual([window_least(4), window_least(5), rulers_of(4, 6), rulers_of(4, 5), shortest_length(5),
                          shortest_rulers(3)],
                         [6, 9, ((0, 1, 4, 6), (0, 2, 5, 6)), (), 11, ((0, 1, 3), (0, 2, 3))])

    def test_by_hand(self):
        # With w = 4, 16 times 4 is up to (L + 4) 7 from L = 6 on; 25 times 4 up to (L + 4) 8 from 9 on.
        self.assertEqual([length for length in range(12) if 16 * 4 <= (length + 4) * 7][0], 6)
        self.assertEqual([length for length in range(12) if 25 * 4 <= (length + 4) * 8][0], 9)
        self.assertIn((0, 1, 4, 9, 11), rulers_of(5, 11))
        self.assertEqual(rulers_of(5, 10), ())


class Windows(unittest.TestCase):
    def test_beside_a_search(self):
        for many in range(1, 61):
            told = window_least(many)
            widths = range(1, many * many + 40)
            self.assertTrue(all(many * many * w <= (told + w) * (many + w - 1) for w in widths))
            # No lesser length lets all widths; a length that does is one for all above it.
            for length in range(told) if many < 25 else range(max(0, told - 5), told):
                self.assertFalse(all(many * many * w <= (length + w) * (many + w - 1) for w in widths))
        self.assertEqual(window_least(many=1), 0)

    def test_rulers_are_not_below(self):
        rulers = [with_next((), many) for many in range(1, 61)] + [prime_ruler(prime) for prime in small_primes(59)]
        rng = dice(141)
        for _ in range(40):
            marks = ()
            for place in rng.sample(range(60), 40):
                marks = (*marks, place) if are_ruler((*marks, place)) else marks
            rulers.append(tuple(sorted(marks)))
        for marks in rulers:
            many, spread = len(marks), marks[-1] - marks[0]
            self.assertTrue(spread >= window_least(many))
            self.assertTrue(spread >= many * (many - 1) // 2)
            for w in (1, 2, 5, many, many * many, GREAT):
                self.assertTrue(many * many * w <= (spread + w) * (many + w - 1))
        for many in range(1, 7):
            self.assertTrue(window_least(many) <= shortest_length(many))


class Shortest(unittest.TestCase):
    def test_beside_a_search(self):
        for many in range(1, 7):
            found = [searched(many, length) for length in range(31)]
            for length in range(31):
                self.assertEqual(rulers_of(many, length), found[length])
            least = [length for length in range(31) if found[length]][0]
            self.assertEqual(shortest_length(many), least)
            self.assertEqual(shortest_rulers(many), found[least])
        self.assertEqual([shortest_length(many) for many in range(1, 7)], [0, 1, 3, 6, 11, 17])
        self.assertEqual([len(shortest_rulers(many)) for many in range(1, 7)], [1, 1, 2, 2, 4, 8])

    def test_ends_of_what_is_let(self):
        self.assertEqual([rulers_of(1, 0), rulers_of(1, 1), rulers_of(1, 30)], [((0,),), (), ()])
        self.assertEqual([rulers_of(2, 0), rulers_of(2, 1), rulers_of(many=2, length=30)], [(), ((0, 1),), ((0, 30),)])
        self.assertEqual([rulers_of(6, 0), rulers_of(6, 16), len(rulers_of(6, 30))], [(), (), len(searched(6, 30))])
        self.assertEqual([shortest_length(many=1), shortest_rulers(many=1), shortest_rulers(2)], [0, ((0,),), ((0, 1),)])

    def test_mirrored_ones(self):
        for many in range(1, 7):
            for length in range(31):
                told = rulers_of(many, length)
                self.assertEqual(told, tuple(sorted(set(told))))
                for marks in told:
                    far = tuple(length - mark for mark in marks[::-1])
                    self.assertIn(far, told)
                    self.assertIs(far == marks, many < 3)

    def test_each_length_once(self):
        # [F2]: no, one, two, three gaps; none of five marks or six.
        once = []
        for many in range(1, 7):
            for length in range(31):
                for marks in rulers_of(many, length):
                    self.assertEqual(len(measured(marks)), many * (many - 1) // 2)
                    self.assertTrue(length >= many * (many - 1) // 2)
                    is_it = length == many * (many - 1) // 2
                    self.assertIs(is_it, is_ruler(marks) and is_complete(marks))
                    once.extend([gaps_of(marks)] * is_it)
        self.assertEqual(sorted(once), [(), (1,), (1, 2), (1, 3, 2), (2, 1), (2, 3, 1)])


class Refusals(unittest.TestCase):
    def test_many(self):
        for value in NOT_WHOLE + [0, -1, GREAT, -GREAT]:
            for call in (window_least, shortest_length, shortest_rulers, lambda value: rulers_of(value, 5),
                         lambda value: rulers_of(value, None)):
                wanted(self, InvalidNumber, lambda call=call, value=value: call(value), given=value)
        wanted(self, InvalidNumber, lambda: window_least(61), given=61)
        for value in (7, 8, 60):
            for call in (shortest_length, shortest_rulers, lambda value: rulers_of(value, 5)):
                wanted(self, InvalidNumber, lambda call=call, value=value: call(value), given=value)

    def test_length(self):
        for value in NOT_WHOLE + [-1, 31, GREAT, -GREAT]:
            wanted(self, InvalidNumber, lambda value=value: rulers_of(3, value), given=value)
            wanted(self, InvalidNumber, lambda value=value: rulers_of(1, value), given=value)


if __name__ == "__main__":
    unittest.main()
