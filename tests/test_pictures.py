"""[G4] and pictures.py."""

import unittest
from itertools import product

from samegaps.errors import InvalidHeap, InvalidLot, InvalidPicture, InvalidPoints, InvalidWhole, TooLong
from samegaps.pictures import ground, read_strip, read_wheel, stairs, strip, wheel
from samples import CORNER, FOUR_HUNDRED, GREAT, MIXED, NO_RINGS, NOT_TUPLES, Odd, RULER, WRONG_ROWS, along
from samples import along_points, dice, nested, points_from, refuses_wrong_lots, refuses_wrong_points, wanted

NO_TEXTS = [value for value in NOT_TUPLES if not isinstance(value, str)] + [(), ("1",), ("o", "."), nested(20)]
# What is no HEAP: no ROW, and ROWs with a WEIGHT below 0.
NO_HEAPS = [value for value, _ in WRONG_ROWS] + [MIXED, ((0, -1),), ((0, 1), (1, 1), (4, -1)), ((0, -GREAT), (999, 1))]
WHEEL_SIGNS = ("", "x", "O", "0", "#", "1", " ", "\n", "\u043e", "..")


def sign_for(many):
    """The sign for so many marks."""
    return "." if many == 0 else str(many) if many < 10 else "#"


def some_heaps(seed, height):
    """Heaps of any spread up to 200, begun anywhere."""
    rng = dice(seed)
    for _ in range(150):
        spread = rng.choice((0, 1, 2, 9, 60, 199, 200))
        places = {0, spread} | {rng.randint(0, spread) for _ in range(rng.randint(0, 30))}
        shift = rng.choice((0, 1, -3, -spread, GREAT, -GREAT))
        yield tuple((place + shift, rng.randint(1, height)) for place in sorted(places))


class Examples(unittest.TestCase):
    def test_of_the_document(self):
        self.assertEqual([strip(((0, 1), (1, 2), (4, 12))), read_strip("12..3"), stairs(((5, 1), (6, 1), (9, 1))),
                          wheel(8, (0, 1, 3, 4)), read_wheel("o..o"), ground(CORNER)],
                         ["12..#", ((0, 1), (1, 2), (4, 3)), "1 4\n3\n", "oo.oo...", (4, (0, 3)), "1.\n11\n"])
        wanted(self, InvalidPicture, lambda: read_strip("1.#"), place=2)


class Strips(unittest.TestCase):
    def test_each_place(self):
        for heap in some_heaps(151, 14):
            told, marks = strip(heap), dict(heap)
            first, last = heap[0][0], heap[-1][0]
            self.assertEqual(told, "".join(sign_for(marks.get(p, 0)) for p in range(first, last + 1)))
            self.assertEqual(len(told), last - first + 1)
            self.assertEqual(strip(along(heap, 77)), told)
        self.assertEqual([strip(()), strip(((5, 1),)), strip(((-GREAT, 9),)), strip(((3, 10),)), strip(((0, GREAT),))],
                         ["", "1", "9", "#", "#"])
        self.assertEqual([strip(heap=((-1, many), (1, many))) for many in (1, 2, 8, 9, 10, 11)],
                         ["1.1", "2.2", "8.8", "9.9", "#.#", "#.#"])

    def test_there_and_back(self):
        seen = {}
        for heap in some_heaps(152, 9):
            told = strip(heap)
            self.assertEqual(read_strip(told), along(heap, -heap[0][0]))
            self.assertEqual(strip(read_strip(told)), told)
            self.assertEqual(seen.setdefault(told, along(heap, -heap[0][0])), along(heap, -heap[0][0]))
        self.assertEqual([read_strip(""), read_strip("9"), read_strip(text="1.1")], [(), ((0, 9),), ((0, 1), (2, 1))])
        for length in range(4):
            for signs in product(".129", repeat=length):
                text = "".join(signs)
                if text == "" or (text[0] != "." and text[-1] != "."):
                    self.assertEqual(strip(read_strip(text)), text)

    def test_longest(self):
        longest = "1" + "." * 199 + "9"
        self.assertEqual(read_strip(longest), ((0, 1), (200, 9)))
        self.assertEqual(strip(((-9, 1), (191, 9))), longest)
        self.assertEqual(read_strip("3" * 201), tuple((p, 3) for p in range(201)))
        for heap in (((0, 1), (201, 1)), along(((0, 12), (7, 1), (201, 3)), -GREAT), ((-GREAT, 1), (GREAT, 1)),
                     tuple((p, 1) for p in range(400)), FOUR_HUNDRED):
            wanted(self, TooLong, lambda heap=heap: strip(heap))

    def test_wrong_heaps(self):
        for value in NO_HEAPS:
            wanted(self, InvalidHeap, lambda value=value: strip(value), given=value)
        # A heap that is none is told ahead of one that is too long.
        long = ((0, 1), (300, -1))
        wanted(self, InvalidHeap, lambda: strip(long), given=long)


class StripsRead(unittest.TestCase):
    def wrong(self, text, place):
        wanted(self, InvalidPicture, lambda: read_strip(text), place=place)

    def test_wrong_signs(self):
        for sign in ("#", "0", "x", " ", "\n", "-", "o", "\u00b2", "\u0661", "\u2460", "I"):
            self.wrong(sign, 0)
            self.wrong(sign + "1", 0)
            self.wrong("1" + sign + "1", 1)
            self.wrong("12..3" + sign, 5)
            self.wrong("1." + sign + "#", 2)
            self.wrong("1" + "." * 199 + sign, 200)
            self.wrong("1" * 100 + sign + "x" * 100, 100)
        self.wrong(".", 0)
        self.wrong(".1", 0)
        self.wrong("." * 300, 0)

    def test_stopped_too_early(self):
        self.wrong("1.", 2)
        self.wrong("1....", 5)
        self.wrong("1.2..", 5)
        self.wrong("1" + "." * 199, 200)
        self.wrong("1" + "." * 198, 199)

    def test_too_long(self):
        # No mark at the 201st sign can't end well, nor can any 202nd sign.
        self.wrong("1" + "." * 200, 200)
        self.wrong("1" + "." * 200 + "1", 200)
        self.wrong("1" * 202, 201)
        self.wrong("1" * 201 + ".", 201)
        self.wrong("1" * 201 + "#", 201)
        self.wrong("1" * 5000, 201)
        self.wrong("1" + "." * 199 + "1.", 201)

    def test_beside_all_strips(self):
        # The first sign behind which no strip goes on, by the strips themselves; none so short is too long.
        goes_on = lambda head: head == "" or (head[0] in "12" and set(head) <= set("12."))
        for length in range(5):
            for signs in product(".12#", repeat=length):
                text = "".join(signs)
                wrong = [at for at in range(length) if not goes_on(text[:at + 1])]
                if wrong:
                    self.wrong(text, wrong[0])
                elif text.endswith("."):
                    self.wrong(text, length)
                else:
                    self.assertEqual(strip(read_strip(text)), text)

    def test_no_text(self):
        for value in NO_TEXTS:
            self.wrong(value, None)


class Stairs(unittest.TestCase):
    def test_rows(self):
        rng = dice(153)
        for many in range(10):
            for size in (10, 50, GREAT):
                marks = sorted(rng.sample(range(-size, size), many)) if size < GREAT else \
                    sorted({rng.randint(-GREAT, GREAT) for _ in range(many)})
                told = stairs(tuple((mark, 1) for mark in marks))
                rows = [[str(far - mark) for far in marks[at + 1:]] for at, mark in enumerate(marks[:-1])]
                self.assertEqual(told, "".join(" ".join(row) + "\n" for row in rows))
                self.check_steps(told, marks)

    def check_steps(self, told, marks):
        rows = [[int(word) for word in row.split(" ")] for row in told.split("\n")[:-1]]
        self.assertEqual([len(row) for row in rows], list(range(len(marks) - 1, 0, -1)))
        gaps = [row[0] for row in rows]
        for at, row in enumerate(rows):
            self.assertEqual(row, [sum(gaps[at:at + k + 1]) for k in range(len(row))])
        if rows:
            self.assertEqual(rows[-1], [marks[-1] - marks[-2]])

    def test_few_and_many(self):
        self.assertEqual([stairs(()), stairs(((7, 1),)), stairs(((-GREAT, 1),)), stairs(((0, 1), (4, 1)))],
                         ["", "", "", "4\n"])
        self.assertEqual(stairs(heap=RULER), "1 4\n3\n")
        self.assertEqual(stairs(tuple((p, 1) for p in range(9))).count("\n"), 8)
        # Of more figures than Python writes at once.
        self.assertEqual(stairs(((0, 1), (10 ** 5000, 1))), "1" + "0" * 5000 + "\n")

    def test_wrong_heaps(self):
        for value in NO_HEAPS + [tuple((p, 1) for p in range(10)), ((0, 2),), ((0, 1), (1, 1), (2, 2)), FOUR_HUNDRED,
                                 ((0, 1), (1, GREAT)), tuple((p, 1) for p in range(400))]:
            wanted(self, InvalidHeap, lambda value=value: stairs(value), given=value)


class Wheels(unittest.TestCase):
    def test_there_and_back(self):
        rng = dice(154)
        for n in range(1, 61):
            for many in {0, 1, n // 2, n - 1, n}:
                lot = tuple(sorted(rng.sample(range(n), many)))
                told = wheel(n, lot)
                self.assertEqual(told, "".join("o" if place in lot else "." for place in range(n)))
                self.assertEqual(read_wheel(told), (n, lot))
                self.assertEqual(read_wheel(text=wheel(n=n, lot=lot)), (n, lot))
        for length in range(1, 7):
            texts = ["".join(signs) for signs in product("o.", repeat=length)]
            told = [read_wheel(text) for text in texts]
            self.assertEqual(len(set(told)), len(texts))
            self.assertEqual([wheel(n, lot) for n, lot in told], texts)

    def test_wrong_texts(self):
        wanted(self, InvalidPicture, lambda: read_wheel(""), place=0)
        for text, place in (("x", 0), ("oo.x", 3), ("oxx", 1), ("." * 59 + "x", 59), ("." * 60 + "x", 60),
                            ("o" * 61, 60), ("." * 61, 60), ("o." * 500, 60), ("o" * 60 + "\n", 60), ("o" * 30 + "O", 30)):
            wanted(self, InvalidPicture, lambda text=text: read_wheel(text), place=place)
        for sign in WHEEL_SIGNS[1:-1]:
            wanted(self, InvalidPicture, lambda sign=sign: read_wheel(sign), place=0)
            wanted(self, InvalidPicture, lambda sign=sign: read_wheel("o.o" + sign), place=3)
        self.assertEqual(read_wheel("." * 60), (60, ()))
        self.assertEqual(read_wheel("o" * 60), (60, tuple(range(60))))
        for value in NO_TEXTS:
            wanted(self, InvalidPicture, lambda value=value: read_wheel(value), place=None)

    def test_wrong_rings_and_lots(self):
        for value in NO_RINGS:
            wanted(self, InvalidWhole, lambda value=value: wheel(value, None), given=value)
            wanted(self, InvalidWhole, lambda value=value: wheel(value, ()), given=value)
        refuses_wrong_lots(self, InvalidLot, lambda lot: wheel(8, lot))
        wanted(self, InvalidLot, lambda: wheel(60, (59, 60)), index=1)


class Grounds(unittest.TestCase):
    def test_each_point(self):
        rng = dice(155)
        for _ in range(120):
            wide, high = rng.choice((0, 1, 3, 60)), rng.choice((0, 1, 4, 60))
            told = {(rng.randint(0, wide), rng.randint(0, high)): rng.randint(1, 12) for _ in range(rng.randint(1, 40))}
            points = along_points(points_from(told), rng.choice(((0, 0), (-3, 5), (GREAT, -GREAT), (-60, -60))))
            marks = dict(points)
            firsts, seconds = [a for (a, _), _ in points], [b for (_, b), _ in points]
            rows = []
            for second in range(max(seconds), min(seconds) - 1, -1):
                rows.append([sign_for(marks.get((first, second), 0)) for first in range(min(firsts), max(firsts) + 1)])
            self.assertEqual(ground(points), "".join("".join(row) + "\n" for row in rows))

    def test_ends(self):
        self.assertEqual([ground(()), ground((((4, -7), 1),)), ground((((0, 0), 10),)), ground(points=CORNER)],
                         ["", "1\n", "#\n", "1.\n11\n"])
        self.assertEqual(ground((((-2, -1), 2), ((-1, 1), 9), ((0, -1), 11))), ".9.\n...\n2.#\n")
        self.assertEqual(ground((((0, 0), 1), ((60, 0), 1))), "1" + "." * 59 + "1\n")
        self.assertEqual(ground((((0, 0), 1), ((0, 60), 1))), "1\n" + ".\n" * 59 + "1\n")
        self.assertEqual(ground((((0, 60), 1), ((60, 0), 2))).count("\n"), 61)
        for points in ((((0, 0), 1), ((61, 0), 1)), (((0, 0), 1), ((0, 61), 1)), (((0, 61), 1), ((1, 0), 1)),
                       (((-GREAT, 0), 1), ((GREAT, 0), 1)), (((0, -1), 1), ((0, 60), 1)), (((0, 0), 1), ((61, 61), 1))):
            wanted(self, TooLong, lambda points=points: ground(points))

    def test_wrong_points(self):
        refuses_wrong_points(self, InvalidPoints, ground)
        for points in ((((0, 0, 0), 1),), (((0, 0), -1),), (((0, 0), 1), ((0, 1), -1)), (((0, 0), 1), ((99, 1), -1)),
                       (((0, 0, 0), 1), ((0, 0, 99), 1)), (((0, 0, 0), -1),)):
            wanted(self, InvalidHeap, lambda points=points: ground(points), given=points)

    def test_odd(self):
        for value in (Odd(), nested(20)):
            wanted(self, InvalidPoints, lambda value=value: ground(value), index=0 if isinstance(value, tuple) else None)


if __name__ == "__main__":
    unittest.main()
