"""[A6] and rowtexts.py."""

import unittest

from samegaps.errors import InvalidRow, InvalidText
from samegaps.rows import product
from samegaps.rowtexts import read_row, row_text
from samples import FOUR_HUNDRED, GREAT, MIXED, RULER, Odd, dice, nested, refuses_wrong_rows, some_row, wanted

# Pairs of a text that is none of a ROW and the index of its first wrong word.
WRONG = [
    ("", 0), (" ", 0), ("0 ", 1), (" 0", 0), ("0  1", 1), ("0 1*1 2", 1), ("4 5 5", 2), ("4 5 4", 2), ("2*1", 0),
    ("2*0", 0), ("2*-0", 0), ("-0", 0), ("-0*2", 0), ("00", 0), ("01", 0), ("-01", 0), ("1*02", 0), ("1*-02", 0),
    ("1*", 0), ("*2", 0), ("*", 0), ("1**2", 0), ("1*2*3", 0), ("-", 0), ("1*-", 0), ("--1", 0), ("+1", 0),
    ("1*+2", 0), ("1_0", 0), ("0x1", 0), ("1.0", 0), ("1e3", 0), ("a", 0), ("0 a", 1), ("nought 1", 1),
    ("nought nought", 1), ("nought ", 1), ("0 nought", 1), ("Nought", 0), ("noughts", 0), ("nought*2", 0),
    ("0\t1", 0), ("0\n", 0), ("0 1\n", 1), ("\n0", 0), ("0\u00a01", 0), ("\u0663", 0), ("1*\u00b2", 0), ("\u0967", 0),
    ("0 -1", 1), ("-1 -1*2", 1), ("5*2 5*3", 1), ("10 9", 1), ("-9 -10", 1), ("0 1 2 x 4", 3), ("0,1", 0),
    ("\ud800", 0), ("\x00", 0),
]


class Texts(unittest.TestCase):
    def test_of_the_document(self):
        mixed, ruler = MIXED, RULER
        self.assertEqual([row_text(mixed), row_text(ruler), row_text(()), read_row("-1*2 3*-4") == mixed,
                          read_row("nought")], ["-1*2 3*-4", "0 1 4", "nought", True, ()])
        wanted(self, InvalidText, lambda: read_row("0 1*1 2"), index=1)
        wanted(self, InvalidText, lambda: read_row("4 5 5"), index=2)

    def test_there_and_back(self):
        rng = dice(4)
        rows = [some_row(rng, rng.randint(1, 8), 40, rng.choice((1, 2, 10 ** 50, GREAT))) for _ in range(80)]
        rows += [(), ((0, 1),), ((0, -1),), ((-GREAT, GREAT), (GREAT, -GREAT)), ((10, 1), (11, 10)), FOUR_HUNDRED]
        for row in rows:
            words = [str(p) if w == 1 else f"{p}*{w}" for p, w in row]
            self.assertEqual(row_text(row), " ".join(words) if words else "nought")
            self.assertEqual(read_row(row_text(row)), row)
        self.assertEqual(read_row(text="7"), ((7, 1),))
        self.assertEqual(row_text(row=((7, 1),)), "7")

    def test_numbers_of_very_many_figures(self):
        great = ((0, GREAT), (3, -GREAT))
        for _ in range(5):
            great = product(great, great)
            self.assertEqual(read_row(row_text(great)), great)
        self.assertEqual(row_text(((0, 10 ** 5000), (10 ** 5000, -10 ** 4800))),
                         "0*1" + "0" * 5000 + " 1" + "0" * 5000 + "*-1" + "0" * 4800)
        self.assertEqual(read_row("-1" + "0" * 4500), ((-10 ** 4500, 1),))
        wanted(self, InvalidText, lambda: read_row("0" * 5000), index=0)

    def test_wrong_words(self):
        for text, index in WRONG:
            wanted(self, InvalidText, lambda text=text: read_row(text), index=index)

    def test_four_hundred_words(self):
        words = [str(p) for p in range(402)]
        self.assertEqual(len(read_row(" ".join(words[:400]))), 400)
        wanted(self, InvalidText, lambda: read_row(" ".join(words[:401])), index=400)
        wanted(self, InvalidText, lambda: read_row(" ".join(words)), index=400)
        wanted(self, InvalidText, lambda: read_row(" ".join(words[:399] + ["x"] + words[400:])), index=399)

    def test_no_texts(self):
        for value in (None, True, 0, GREAT, b"0", (), ("0",), [], {}, set(), Odd(), str, nested(20), RULER):
            wanted(self, InvalidText, lambda value=value: read_row(value), index=None)
        refuses_wrong_rows(self, InvalidRow, row_text)


if __name__ == "__main__":
    unittest.main()
