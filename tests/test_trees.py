"""[10], [D3] to [D5] and trees.py."""

import unittest
from itertools import combinations_with_replacement

from samegaps.errors import InvalidHeap, InvalidLengths
from samegaps.gaps import have_same
from samegaps.toldback import all_heaps
from samegaps.trees import does_tell, heaps_of, lengths_of, tree_of
from samples import GREAT, MIXED, NOT_TUPLES, Odd, WRONG_ROWS, along, back, dice, nested, times, wanted

WRONG_LENGTHS = [(value, None) for value in NOT_TUPLES] + [
    ((None,), 0), ((True,), 0), ((False,), 0), ((-1,), 0), (("0",), 0), ((b"0",), 0), (((1,),), 0), (([1],), 0),
    ((Odd(),), 0), ((2j,), 0), (nested(20), 0), ((2, 1), 1), ((1, True), 1), ((1, 2, 1), 2), ((1, 2, GREAT, 3), 3),
    ((0, -1, 5), 1), ((3, 2, 5), 1), ((1, 2, 3, 4, 5, None), 5), ((1, 1, None, 0), 2), ((-GREAT,), 0),
    (tuple(range(50)) + (3,), 50), ((1, 2, (3,)), 2),
]
NUMBERS = (0, 1, 3, 6, 10, 15, 21, 28, 36)


def heap_at(marks):
    """The heap with these marks."""
    return tuple((mark, marks.count(mark)) for mark in sorted(set(marks)))


def between(marks):
    """The lengths between each two of the marks."""
    return tuple(sorted(abs(a - b) for at, a in enumerate(marks) for b in marks[:at]))


def all_by_lengths(many, most):
    """All rooted heaps of so many marks, none above most, by their lengths."""
    found = {}
    for marks in combinations_with_replacement(range(most + 1), many - 1):
        found.setdefault(between((0, *marks)), []).append(heap_at((0, *marks)))
    return found


def walked(tree, marks, left):
    """All marks at the ends of a tree, by a judge of the test's own; None where the tree is wrong."""
    if not left:
        return [marks] if tree == ("heap",) else None
    low, high = marks[1] - max(left), max(left)
    ends = []
    ways = [low] if low == high else [low, high]
    if len(tree) != len(ways):
        return None
    for way, place in zip(tree, ways):
        rest, needed = list(left), [abs(place - mark) for mark in marks]
        for length in needed:
            if length in rest:
                rest.remove(length)
        if len(left) - len(rest) == len(needed):
            found = walked(way, (*marks, place), rest)
            if found is None:
                return None
            ends.extend(found)
        elif way != ("lacks", max(n for n in needed if needed.count(n) > left.count(n))):
            return None
    return ends


def parts_of(tree, path=()):
    """All paths to parts of a tree, and the parts."""
    yield path, tree
    for at, part in enumerate(tree):
        if isinstance(part, tuple):
            yield from parts_of(part, (*path, at))


def bent(tree, path, part):
    """The tree with another part at the path."""
    if not path:
        return part
    return tree[:path[0]] + (bent(tree[path[0]], path[1:], part),) + tree[path[0] + 1:]


class Examples(unittest.TestCase):
    def test_of_the_document(self):
        self.assertEqual([lengths_of(((5, 1), (6, 1), (9, 1))), heaps_of((1, 3, 4)), heaps_of((1, 1, 3)), heaps_of(()),
                          heaps_of((0, 2, 2))],
                         [(1, 3, 4), (((0, 1), (1, 1), (4, 1)), ((0, 1), (3, 1), (4, 1))), (), (((0, 1),),),
                          (((0, 1), (2, 2)), ((0, 2), (2, 1)))])
        self.assertEqual([tree_of((1, 3, 4)), tree_of((1, 1, 3)), tree_of((0,)),
                          does_tell((1, 1, 3), (("lacks", 2), ("lacks", 2)), ())],
                         [(("heap",), ("heap",)), (("lacks", 2), ("lacks", 2)), ("heap",), True])


class Lengths(unittest.TestCase):
    def test_of_heaps(self):
        rng = dice(61)
        for _ in range(150):
            size = rng.choice((1, 3, 20, GREAT))
            marks = [rng.randint(-size, size) for _ in range(rng.randint(1, 9))]
            heap = heap_at(marks)
            self.assertEqual(lengths_of(heap), between(marks))
            self.assertEqual(lengths_of(along(heap, -GREAT)), lengths_of(along(back(heap), 3)))
        self.assertEqual([lengths_of(((4, 1),)), lengths_of(((4, 2),)), lengths_of(heap=((-4, 9),))],
                         [(), (0,), (0,) * 36])

    def test_same_lengths_same_differences(self):
        heaps = [heap for heaps in all_by_lengths(4, 4).values() for heap in heaps]
        for one in heaps[::2]:
            for other in heaps[::3]:
                self.assertIs(lengths_of(one) == lengths_of(other), have_same(one, other))

    def test_no_heaps(self):
        no_heaps = [value for value, _ in WRONG_ROWS] + [
            (), MIXED, ((0, 1), (1, -1)), ((0, -1),), ((0, 10),), ((0, 9), (1, 1)), tuple((p, 1) for p in range(10)),
            ((0, GREAT),)]
        for value in no_heaps:
            wanted(self, InvalidHeap, lambda value=value: lengths_of(value), given=value)


class Heaps(unittest.TestCase):
    def test_beside_a_search(self):
        for many, most in ((2, 9), (3, 9), (4, 8), (5, 7), (6, 6), (7, 4)):
            for told, heaps in all_by_lengths(many, most).items():
                self.assertEqual(heaps_of(told), tuple(sorted(heaps)))

    def test_nobodys(self):
        found = all_by_lengths(3, 5)
        for told in combinations_with_replacement(range(6), 3):
            self.assertEqual(heaps_of(told), tuple(sorted(found.get(told, ()))))
        found = all_by_lengths(4, 4)
        for told in combinations_with_replacement(range(5), 6):
            self.assertEqual(heaps_of(told), tuple(sorted(found.get(told, ()))))
            self.assertIs(does_tell(told, tree_of(told), heaps_of(told)), True)

    def test_many_marks(self):
        rng = dice(62)
        for _ in range(60):
            size = rng.choice((2, 5, 9, 30, GREAT))
            marks = [rng.randint(0, size) for _ in range(rng.randint(7, 9))]
            heap = along(heap_at(marks), -min(marks))
            told = heaps_of(lengths_of(heap))
            self.assertIn(heap, told)
            self.assertIn(along(back(heap), heap[-1][0]), told)
            for other in told:
                self.assertEqual(other[0][0], 0)
                self.assertEqual(lengths_of(other), between(marks))
            self.assertEqual(told, tuple(sorted(set(told))))
            if size <= 30:
                self.assertEqual(told, all_heaps(heap))

    def test_turned_ones(self):
        three, four = ((0, 1), (1, 1), (3, 1)), ((0, 1), (4, 1), (9, 1))
        heap = times(three, four)
        far = [times(one, other) for one in (three, along(back(three), 3)) for other in (four, along(back(four), 9))]
        self.assertEqual(heaps_of(lengths_of(heap)), tuple(sorted(far)))
        self.assertEqual(heaps_of((0,) * 36), (((0, 9),),))
        self.assertEqual(heaps_of(lengths=(7,)), (((0, 1), (7, 1)),))
        self.assertEqual(heaps_of((GREAT,)), (((0, 1), (GREAT, 1)),))


class Trees(unittest.TestCase):
    def some_lengths(self):
        rng = dice(63)
        for _ in range(70):
            size = rng.choice((1, 2, 4, 9, 40, GREAT))
            marks = [rng.randint(0, size) for _ in range(rng.randint(1, 7))]
            told = list(between(marks))
            if told and rng.randint(0, 2) == 0:
                told[rng.randrange(len(told))] = rng.randint(0, size)
            yield tuple(sorted(told))

    def test_right_ones(self):
        kinds = set()
        for told in self.some_lengths():
            tree = tree_of(told)
            first = (0, told[-1]) if told else (0,)
            ends = walked(tree, first, list(told[:-1]))
            self.assertIsNotNone(ends)
            heaps = tuple(sorted({heap_at(marks) for marks in ends}))
            self.assertEqual(heaps_of(told), heaps)
            self.assertIs(does_tell(told, tree, heaps), True)
            self.assertIs(does_tell(lengths=told, tree=tree, heaps=heaps), True)
            kinds.update(len(part) for _, part in parts_of(tree) if "lacks" not in part and part != ("heap",))
            kinds.update(part[0] for _, part in parts_of(tree) if isinstance(part[0], str))
        self.assertEqual(kinds, {1, 2, "lacks", "heap"})

    def test_of_any_size(self):
        for many, number in enumerate(NUMBERS, 1):
            told = tuple(range(1, number + 1))
            self.assertIs(does_tell(told, tree_of(told), heaps_of(told)), True)
            zeros = (0,) * number
            tree = ("heap",)
            for _ in range(many - 2):
                tree = (tree,)
            self.assertEqual(tree_of(lengths=zeros), tree)
            self.assertIs(does_tell(zeros, tree, (((0, many),),)), True)
        self.assertEqual(tree_of(()), ("heap",))
        # Low and high are one; and one lacks 1 and 2, of which the greater one is told.
        self.assertEqual(tree_of((2, 2, 4)), (("heap",),))
        self.assertEqual(tree_of((0, 3, 5)), (("lacks", 2), ("lacks", 2)))
        # A way that is let, behind which the next one is not.
        self.assertEqual(tree_of((1, 1, 2, 2, 3, 4)), ((("heap",),), (("heap",),)))
        self.assertEqual(tree_of((1, 1, 2, 2, 3, 5)), ((("lacks", 3), ("lacks", 3)), (("lacks", 3), ("lacks", 3))))

    def test_any_length_that_lacks(self):
        for lengths in self.some_lengths():
            tree, heaps = tree_of(lengths), heaps_of(lengths)
            for path, part in parts_of(tree):
                if part[0] != "lacks":
                    continue
                lets = [number for number in range(12)
                        if does_tell(lengths, bent(tree, path, ("lacks", number)), heaps)]
                self.assertTrue(set(lets) <= set(self.lacks_at(lengths, path)))
                for number in self.lacks_at(lengths, path):
                    self.assertIs(does_tell(lengths, bent(tree, path, ("lacks", number)), heaps), True)
        # To 0 and 9 the places 1 and 8 have 1 and 8, of which 1 is not left.
        self.assertEqual(self.lacks_at((2, 8, 9), (0,)), [1])
        self.assertIs(does_tell((2, 8, 9), (("lacks", 1), ("lacks", 1)), ()), True)
        self.assertIs(does_tell((2, 8, 9), (("lacks", 8), ("lacks", 1)), ()), False)

    def lacks_at(self, lengths, path):
        """What the way at the path lacks, by the test's own walk."""
        marks, left = (0, lengths[-1]), list(lengths[:-1])
        for at in path:
            place = (marks[1] - max(left), max(left))[at]
            needed = [abs(place - mark) for mark in marks]
            lacks = [n for n in needed if needed.count(n) > left.count(n)]
            if lacks:
                return lacks
            for length in needed:
                left.remove(length)
            marks = (*marks, place)
        return []

    def test_bent_ones(self):
        odd = [None, True, 0, "heap", "", (), ("heap",), ("heap", "heap"), ("lacks", 0), ("lacks", 2), ("lacks",),
               ("lacks", True), ("lacks", None), ["heap"], ("Heap",), (b"heap",), (("heap",),), ("heap", ("heap",)),
               (("heap",), ("heap",)), (("heap",), ("heap",), ("heap",)), nested(10), Odd(), {}, (None,), (None, None)]
        for lengths in ((), (4,), (1, 3, 4), (1, 1, 3), (2, 2, 4), (0, 2, 2), (1, 2, 3, 4, 5, 6), (0, 0, 0), (1, 1, 2)):
            tree, heaps = tree_of(lengths), heaps_of(lengths)
            for path, part in parts_of(tree):
                for other in odd:
                    wrong = bent(tree, path, other)
                    is_right = repr(wrong) == repr(tree) or (part[0] == "lacks" and isinstance(other, tuple) and len(other) == 2
                                                 and other[0] == "lacks" and type(other[1]) is int
                                                 and other[1] in self.lacks_at(lengths, path))
                    self.assertIs(does_tell(lengths, wrong, heaps), is_right, (lengths, wrong))
        for value in NOT_TUPLES:
            self.assertIs(does_tell((1, 3, 4), value, heaps_of((1, 3, 4))), False)
            self.assertIs(does_tell((1, 3, 4), (("heap",), value), heaps_of((1, 3, 4))), False)
            self.assertIs(does_tell((1, 1, 3), (("lacks", 2), ("lacks", value)), ()), False)
            self.assertIs(does_tell((1, 1, 3), (("lacks", 2), (value, 2)), ()), False)

    def test_deep_ones(self):
        told = lengths_of(tuple((p * p, 1) for p in range(9)))
        tree, heaps = tree_of(told), heaps_of(told)
        self.assertIs(does_tell(told, tree, heaps), True)
        paths = [path for path, part in parts_of(tree) if part == ("heap",)]
        self.assertTrue(paths)
        for path in paths:
            self.assertIs(does_tell(told, bent(tree, path, ("lacks", 1)), heaps), False)
            self.assertIs(does_tell(told, bent(tree, path, (("heap",),)), heaps), False)
            self.assertIs(does_tell(told, bent(tree, path[:-1], ("heap",)), heaps), False)

    def test_other_heaps(self):
        one, two = ((0, 1), (1, 1), (4, 1)), ((0, 1), (3, 1), (4, 1))
        tree = (("heap",), ("heap",))
        self.assertIs(does_tell((1, 3, 4), tree, (one, two)), True)
        for heaps in ((one,), (two,), (), (two, one), (one, one, two), (one, two, two), [one, two], (one, list(two)),
                      (one, two, ()), ((), one, two), (one, along(two, 1)), (one, two, ((0, 1), (2, 1))),
                      (one, ((0, 1), (3, 1), (4, True))), (((0, True), (1, 1), (4, 1)), two),
                      (((False, 1), (1, 1), (4, 1)), two), (one, two, None), one, (one, 5), (one, "")):
            self.assertIs(does_tell((1, 3, 4), tree, heaps), False)
        for value in NOT_TUPLES + [nested(20)]:
            self.assertIs(does_tell((1, 3, 4), tree, value), False)
            self.assertIs(does_tell((1, 3, 4), tree, (one, value)), False)
            self.assertIs(does_tell((1, 1, 3), (("lacks", 2), ("lacks", 2)), value), False)
        self.assertIs(does_tell((), ("heap",), (((0, 1),),)), True)
        self.assertIs(does_tell((), ("heap",), (((0, True),),)), False)
        self.assertIs(does_tell((), ("heap",), ()), False)


class Refusals(unittest.TestCase):
    def test_lengths(self):
        for call in (heaps_of, tree_of, lambda value: does_tell(value, None, None)):
            for value, index in WRONG_LENGTHS:
                wanted(self, InvalidLengths, lambda value=value: call(value), index=index)
            for number in [k for k in range(60) if k not in NUMBERS] + [1000]:
                wanted(self, InvalidLengths, lambda number=number: call(tuple(range(number))), index=None)
                wanted(self, InvalidLengths, lambda number=number: call((0,) * (number - 1) + (-1,)), index=number - 1)
            for number in NUMBERS:
                call(tuple(range(number)))


if __name__ == "__main__":
    unittest.main()
