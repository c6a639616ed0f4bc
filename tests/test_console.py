"""[A6] where a line's words are read, [G5] and console.py."""

import re
import unittest
from itertools import combinations_with_replacement

from bookmodel import Model, gaps, history, root
from samegaps.books import Book
from samegaps.console import Console
from samegaps.divisors import common_divisor, quotient
from samegaps.errors import InvalidLine
from samegaps.rowtexts import read_row
from samples import GREAT, MIXED, NOT_TUPLES, RULER, Odd, Yes, along, back, by_number, dice, nested, some_row, times
from samples import wanted

FIRST = {"put": "nr", "more": "npw", "strike": "n", "join": "nnn", "cross": "nnn", "undo": "", "show": "", "gaps": "n",
         "lengths": "n", "groups": "", "same": "nn", "missed": "nn", "parts": "nn", "strip": "n", "others": "n"}
NO_NUMBERS = ["-0", "01", "+1", "-01", "00", "1.0", "1e3", "0x1", "--1", "-", "", "a", "1_0", "\u0661", "\u00b2", "1\n",
              "\t1", "1*1", "1*2", "nought"]
NO_NAMES = ["", "A", "aB", "a1", "1", "abcdefghi", "\u00e4", "a\n", "a\t", "-", "a-b", "_"]
HOOK = ((0, 1), (1, 1), (3, 1))
SIX = tuple((p, 1) for p in (0, 1, 2, 6, 8, 11)), tuple((p, 1) for p in (0, 1, 6, 7, 9, 11))
TOP = 10 ** 400 - 1


def text_of(row):
    """The text of a row."""
    return " ".join(str(p) if w == 1 else f"{p}*{w}" for p, w in row) if row else "nought"


def is_number(word):
    """Whether the word is a whole number in figures."""
    return re.fullmatch("0|-?[1-9][0-9]*", word) is not None


def first_wrong(words):
    """The first wrong word of a ROWTEXT, None for none."""
    if words[0] == "nought":
        return 1 if len(words) > 1 else None
    last = None
    for at, word in enumerate(words):
        place, star, weight = word.partition("*")
        if not is_number(place) or star and (not is_number(weight) or weight in ("0", "1")) or at >= 400:
            return at
        if last is not None and int(place) <= last:
            return at
        last = int(place)
    return None


def wrong_line(words):
    """What is wrong in the words, as [G5] tells it; None for nothing."""
    kinds = FIRST.get(words[0])
    if kinds is None:
        return ("no such line",)
    many = len(words) - 1
    if many < len(kinds) or many > len(kinds) and not kinds.endswith("r"):
        return ("no such line",)
    for at, kind in enumerate(kinds, 1):
        wrong = None
        if kind == "r":
            wrong = first_wrong(words[at:])
        elif kind == "n":
            wrong = None if re.fullmatch("[a-z]{1,8}", words[at]) else 0
        elif not is_number(words[at]) or kind == "w" and words[at] == "0":
            wrong = 0
        if wrong is not None:
            return (f"wrong word {at + wrong}",)
    return None


def refused(model, words):
    """What a line that is one is refused for; None for nothing."""
    word, rows = words[0], model.rows
    new = words[1] if word in ("put", "join", "cross") else None
    if new in rows and new is not None:
        return ("there already",)
    asked = {"more": 2, "put": 1}.get(word, len(words))
    for name in words[1:asked] if new is None else words[2:] if word != "put" else []:
        if name not in rows:
            return ("not there",)
    if word in ("put", "more", "strike", "join", "cross"):
        twin = Model()
        twin.rows = rows
        deed_of(twin, words)
        if len(twin.rows) > 12 or any(len(row) > 20 or any(abs(n) > TOP for pair in row for n in pair)
                                      for row in twin.rows.values()):
            return ("too many",)
    return None


def deed_of(model, words):
    """The deed on the model."""
    if words[0] == "put":
        model.deed("put", words[1], read_row(" ".join(words[2:])))
    elif words[0] == "more":
        model.deed("more", words[1], int(words[2]), int(words[3]))
    else:
        model.deed(*words)


def marks_of(row):
    """The marks of a heap of a count from 1 to 9, None for another row."""
    if not row or min(w for _, w in row) < 1 or sum(w for _, w in row) > 9:
        return None
    return [p for p, w in row for _ in range(w)]


def between(marks):
    """The lengths between each two of the marks."""
    return sorted(abs(a - b) for at, a in enumerate(marks) for b in marks[:at])


def heaps_with(lengths, many):
    """All rooted heaps of so many marks with the lengths, by trying all marks up to the greatest one."""
    if many == 1:
        return [((0, 1),)]
    told = []
    for inner in combinations_with_replacement(range(lengths[-1] + 1), many - 2):
        marks = (0, *inner, lengths[-1])
        if between(marks) == lengths:
            told.append(tuple((p, marks.count(p)) for p in sorted(set(marks))))
    return sorted(told)


def answer(model, words):
    """The answer to a question that is asked of the model."""
    rows = [model.rows[name] for name in words[1:]]
    if words[0] == "show":
        return tuple(f"{name} {text_of(row)}" for name, row in model.rows.items()) or ("empty",)
    if words[0] == "groups":
        return tuple(" ".join(lot) for lot in model.groups())
    if words[0] == "gaps":
        return (text_of(gaps(rows[0])),)
    if words[0] == "missed":
        return tuple(f"{p}:{w}" for p, w in model.missed(*words[1:])) or ("none",)
    if words[0] == "strip":
        return strip_of(rows[0])
    if words[0] in ("lengths", "others"):
        return of_marks(words[0], rows[0])
    if () in rows:
        return ("nought",)
    return same_of(*rows) if words[0] == "same" else parts_of(*rows)


def strip_of(row):
    """The strip."""
    if any(w < 0 for _, w in row):
        return ("no heap",)
    if row and row[-1][0] - row[0][0] > 200:
        return ("too long",)
    told = dict(row)
    return ("".join(".123456789"[told.get(p, 0)] if told.get(p, 0) < 10 else "#"
                    for p in range(row[0][0], row[-1][0] + 1)) if row else "",)


def of_marks(word, row):
    """The lengths, or the other heaps with them."""
    marks = marks_of(row)
    if marks is None:
        return ("no heap",)
    if word == "lengths":
        return (" ".join(str(length) for length in between(marks)) or "none",)
    told = heaps_with(between(marks), len(marks))
    return tuple(text_of(heap) for heap in told if heap not in (root(row), root(back(row)))) or ("only",)


def same_of(row, other):
    """The word of [B4]."""
    if root(row) == root(other):
        return ("alike",)
    if root(row) == root(back(other)):
        return ("mirrored",)
    return ("turned" if gaps(row) == gaps(other) else "unlike",)


def parts_of(row, other):
    """U and V of [B3]."""
    places = [[p for p, _ in told] for told in (row, other)]
    step = 0
    for told in places:
        for p in told:
            step = gcd_of(step, p - told[0])
    if any(told[-1] - told[0] > 60 * step for told in places):
        return ("too wide",)
    if gaps(row) != gaps(other):
        return ("unlike",)
    u = common_divisor(row, other)
    v = quotient(row, u)
    assert times(u, v) == row and root(times(u, back(v))) == root(other) and root(u) == u
    return (text_of(u), text_of(v))


def gcd_of(one, other):
    """The greatest common divisor of two whole numbers."""
    while other:
        one, other = other, one % other
    return abs(one)


def told_by(model, line):
    """The answer to a line, by the model, which does the deed."""
    words = line.split(" ")
    told = wrong_line(words) or (words[0] != "undo" and refused(model, words)) or None
    if told:
        return told
    if words[0] == "undo":
        return (f"groups {len(model.groups())}",) if model.undo() else ("nothing",)
    if words[0] in ("put", "more", "strike", "join", "cross"):
        deed_of(model, words)
        return (f"groups {len(model.groups())}",)
    return answer(model, words)


class Examples(unittest.TestCase):
    def test_of_the_document(self):
        desk = Console()
        self.assertEqual([desk.say("put ab 0 1 4"), desk.say("put c 0 1 3"), desk.say("join j ab c"),
                          desk.say("cross x ab c"), desk.say("same j x"), desk.say("parts j x")],
                         [("groups 1",), ("groups 2",), ("groups 3",), ("groups 3",), ("turned",), ("0 1 4", "0 1 3")])
        self.assertEqual([desk.say("lengths ab"), desk.say("others ab"), desk.say("missed ab c"), desk.say("strip j"),
                          desk.say("gaps c"), desk.say("groups"), desk.say("undo")],
                         [("1 3 4",), ("only",), ("2:-1", "4:1"), ("121121.1",), ("-3 -2 -1 0*3 1 2 3",),
                          ("ab", "c", "j x"), ("groups 3",)])
        self.assertEqual([desk.say("put"), desk.say("put c4 0"), desk.say("put d 0 0"), desk.say("more c 1 0"),
                          desk.say("put c 5"), desk.say("strike d")],
                         [("no such line",), ("wrong word 1",), ("wrong word 3",), ("wrong word 3",),
                          ("there already",), ("not there",)])


class Lines(unittest.TestCase):
    def desk(self, *lines):
        """A console and a model to which these lines were said."""
        desk, model = Console(), Model()
        for line in lines:
            self.both(desk, model, line)
        return desk, model

    def both(self, desk, model, line):
        """Both answer alike, and what is no line, and what is asked, changes nothing."""
        ahead = history(desk.book())
        expected = told_by(model, line)
        told = desk.say(line)
        self.assertEqual(told, expected, line)
        self.assertIs(type(told), tuple)
        self.assertTrue(all(type(text) is str for text in told))
        if not expected or not expected[0].startswith("groups "):
            self.assertEqual(history(desk.book()), ahead)
        else:
            self.assertEqual(desk.book().entries(), tuple(model.rows.items()))
        return told

    def test_each_deed(self):
        desk, model = self.desk()
        for line, told in (("put a 0 1 4", "groups 1"), ("put b nought", "groups 2"), ("put cc 5*-2 9*3", "groups 3"),
                           ("more a 9 -7", "groups 3"), ("more cc 9 -3", "groups 3"), ("more b -3 1", "groups 3"),
                           ("join d a a", "groups 4"), ("cross e a a", "groups 4"), ("strike a", "groups 3"),
                           ("cross zzzzzzzz b d", "groups 3"), ("undo", "groups 3"), ("undo", "groups 4"),
                           ("undo", "groups 4"), ("undo", "groups 3"), ("undo", "groups 3"), ("undo", "groups 3"),
                           ("undo", "groups 3"), ("undo", "groups 2"), ("undo", "groups 1"), ("undo", "groups 0"),
                           ("undo", "nothing"), ("undo", "nothing"), ("show", "empty"), ("put a 0", "groups 1")):
            self.assertEqual(self.both(desk, model, line), (told,))
        self.assertEqual(self.both(desk, model, "undo"), ("groups 0",))
        self.assertEqual(self.both(desk, model, "groups"), ())

    def test_each_question(self):
        desk, model = self.desk("put a 0 1 4", "put b 7 8 11", "put c 0 3 4", "put j 0*2 1*7 2*3", "put k 0*6 1*5 2",
                                "put n nought", "put m -1*2 3*-4", "put o 5", "put far 0 1 200000000000")
        for line, told in (
                ("show", ("a 0 1 4", "b 7 8 11", "c 0 3 4", "j 0*2 1*7 2*3", "k 0*6 1*5 2", "n nought", "m -1*2 3*-4",
                          "o 5", "far 0 1 200000000000")),
                ("gaps n", ("nought",)), ("gaps m", ("-4*-8 0*20 4*-8",)), ("gaps o", ("0",)),
                ("lengths a", ("1 3 4",)), ("lengths o", ("none",)), ("lengths n", ("no heap",)),
                ("lengths m", ("no heap",)), ("lengths j", ("no heap",)), ("groups", ("a b c", "j k", "n", "m", "o", "far")),
                ("same a b", ("alike",)), ("same a c", ("mirrored",)), ("same j k", ("turned",)), ("same a o", ("unlike",)),
                ("same a a", ("alike",)), ("same n a", ("nought",)), ("same a n", ("nought",)), ("same n n", ("nought",)),
                ("missed a b", ("none",)), ("missed j k", ("none",)), ("missed a o", ("0:2", "1:1", "3:1", "4:1")),
                ("missed o a", ("0:-2", "1:-1", "3:-1", "4:-1")), ("missed n n", ("none",)), ("missed n o", ("0:-1",)),
                ("parts j k", ("0*2 1", "0 1*3")), ("parts k j", ("0*2 1", "0*3 1")), ("parts a b", ("0 1 4", "0")),
                ("parts b a", ("0 1 4", "7")), ("parts a c", ("0", "0 1 4")), ("parts a o", ("unlike",)),
                ("parts n a", ("nought",)), ("parts a n", ("nought",)), ("parts n far", ("nought",)),
                ("parts far a", ("too wide",)), ("parts a far", ("too wide",)), ("parts far far", ("too wide",)),
                ("strip a", ("11..1",)), ("strip n", ("",)), ("strip m", ("no heap",)), ("strip far", ("too long",)),
                ("strip j", ("273",)), ("others a", ("only",)), ("others o", ("only",)), ("others n", ("no heap",)),
                ("others m", ("no heap",)), ("others j", ("no heap",)), ("others far", ("only",))):
            if line != "others far":
                self.assertEqual(self.both(desk, model, line), told)
            self.assertEqual(desk.say(line), told)

    def test_counts_strips_heaps(self):
        desk, model = self.desk("put nine 0*2 1*7", "put ten 0*2 1*8", "put p 0 200", "put q 0 201", "put r -3*9 4*10",
                                "put s 0*9", "put t 0*10", f"put u {GREAT} {GREAT + 1}", "put v 0 201*-1")
        for line, told in (("lengths nine", None), ("lengths ten", ("no heap",)), ("others nine", ("only",)),
                           ("others ten", ("no heap",)), ("strip p", ("1" + "." * 199 + "1",)), ("strip q", ("too long",)),
                           ("strip r", ("9......#",)), ("lengths s", (" ".join("0" * 36),)), ("others s", ("only",)),
                           ("lengths t", ("no heap",)), ("strip s", ("9",)), ("strip t", ("#",)), ("strip u", ("11",)),
                           ("lengths u", ("1",)), ("others u", ("only",)), ("strip v", ("no heap",)),
                           ("parts q p", ("too wide",)), ("parts q v", ("unlike",))):
            got = self.both(desk, model, line)
            if told:
                self.assertEqual(got, told)

    def test_others(self):
        desk, model = self.desk(*(f"put {name} {text_of(row)}" for name, row in zip("ab", SIX)),
                                f"put c {text_of(along(back(SIX[0]), 99))}", f"put d {text_of(along(SIX[1], -GREAT))}")
        first, second = [sorted({root(row), root(back(row))}) for row in SIX]
        for name, told in (("a", second), ("b", first), ("c", second), ("d", first)):
            self.assertEqual(self.both(desk, model, f"others {name}"), tuple(text_of(row) for row in told))
        self.assertEqual(self.both(desk, model, "same a b"), ("turned",))
        self.assertEqual(self.both(desk, model, "groups"), ("a b c d",))
        turned = times(RULER, ((0, 1), (4, 1), (9, 1)))
        desk, _ = self.desk(f"put a {text_of(turned)}")
        other = times(RULER, ((0, 1), (5, 1), (9, 1)))
        self.assertEqual(desk.say("others a"), tuple(text_of(row) for row in sorted([other, root(back(other))])))

    def test_what_is_no_line(self):
        desk, model = self.desk("put a 0 1 4", "put b 0", "put c nought", "more a 7 1")
        for line in ("", " ", "  ", "a", "Put d 0", "PUT d 0", "puts d 0", " put d 0", "put  d 0", "put d 0 ", "put d  0",
                     "show ", " show", "show a", "show  ", "groups ", "groups a", "undo ", "undo 1", "undo\n", "undo undo",
                     "strike", "strike ", "strike  ", "strike a ", "strike a b", "strike  a", "strike a\n", "strike\ta",
                     "gaps", "gaps a b", "gaps ", "lengths", "lengths a a", "strip", "strip a 1", "others", "others a b",
                     "same", "same a", "same a b c", "same a ", "same  a b", "same a  b", "missed a", "missed a b c",
                     "parts a", "parts a b c", "join d a", "join d a b c", "join d a ", "join  d a b", "cross d a",
                     "cross d a b c", "more a 1", "more a 1 2 3", "more a  1", "more a 1 ", "more  a 1 1", "put", "put ",
                     "put d", "put  ", "put d ", "put d 0 1 ", "put d nought ", "put d nought 1", "put d 1 nought",
                     "put d  nought", "twin", "kept a", "row a", "nought", "0", "put d 0\n1", "put d\t0"):
            told = self.both(desk, model, line)
            self.assertTrue(told[0] == "no such line" or told[0].startswith("wrong word "), line)
        self.assertEqual(self.both(desk, model, "undo"), ("groups 3",))

    def test_told_in_their_order(self):
        desk, model = self.desk("put a 0 1 4", "put b 0")
        for line, told in (
                ("putt A x", "no such line"), ("strike A B", "no such line"), ("more A x", "no such line"),
                ("put A x", "wrong word 1"), ("put a x", "wrong word 2"), ("put a 0 x y", "wrong word 3"),
                ("put a 0 1 1", "wrong word 4"), ("put a 0*1 x", "wrong word 2"), ("put a", "no such line"),
                ("more A x x", "wrong word 1"), ("more x y z", "wrong word 2"), ("more x 0 0", "wrong word 3"),
                ("more x 0 z", "wrong word 3"), ("more x 0 1", "not there"), (f"more x {TOP + 1} 1", "not there"),
                (f"more a {TOP + 1} 1", "too many"), ("join A B C", "wrong word 1"), ("join a B C", "wrong word 2"),
                ("join a x C", "wrong word 3"), ("join a x y", "there already"), ("join x y a", "not there"),
                ("join x a y", "not there"), ("cross a B x", "wrong word 2"), ("cross b x a", "there already"),
                ("cross x a y", "not there"), ("same A x", "wrong word 1"), ("same x A", "wrong word 2"),
                ("same x a", "not there"), ("same a x", "not there"), ("missed x x", "not there"), ("parts a x", "not there"),
                ("parts x a", "not there"), ("gaps x", "not there"), ("lengths x", "not there"), ("strip x", "not there"),
                ("others x", "not there"), ("strike x", "not there"), ("strike X", "wrong word 1"),
                (f"put a 0*{TOP + 1}", "there already"), (f"put x 0*{TOP + 1}", "too many"),
                ("put a " + " ".join(str(p) for p in range(21)), "there already"),
                ("put x " + " ".join(str(p) for p in range(21)), "too many"),
                ("put x " + " ".join(str(p) for p in range(400)), "too many"),
                ("put x " + " ".join(str(p) for p in range(401)), "wrong word 402"),
                ("put a " + " ".join(str(p) for p in range(402)), "wrong word 402"),
                ("put X " + " ".join(str(p) for p in range(402)), "wrong word 1")):
            self.assertEqual(self.both(desk, model, line), (told,), line)

    def test_wrong_words(self):
        desk, model = self.desk("put a 0 1 4")
        for word in NO_NUMBERS:
            for line, at in ((f"more a {word} 1", 2), (f"more a 1 {word}", 3), (f"put b 5 {word}", 3),
                             (f"put b 5*{word} 6", 2), (f"put b {word}*5 6", 2), (f"put b -9 -8 {word} 7", 4)):
                told = self.both(desk, model, line)
                if not (word in ("1*2", "1*1") or (" " in word)):
                    self.assertIn(told, ((f"wrong word {at}",), ("no such line",)), line)
        for word in NO_NAMES:
            for line, at in ((f"put {word} 0", 1), (f"more {word} 1 1", 1), (f"strike {word}", 1), (f"join {word} a a", 1),
                             (f"join b {word} a", 2), (f"join b a {word}", 3), (f"cross b a {word}", 3), (f"gaps {word}", 1),
                             (f"lengths {word}", 1), (f"same {word} a", 1), (f"same a {word}", 2), (f"missed a {word}", 2),
                             (f"parts {word} a", 1), (f"strip {word}", 1), (f"others {word}", 1)):
                self.assertEqual(self.both(desk, model, line), (f"wrong word {at}",), line)
        for row, at in (("0*0", 0), ("0*1", 0), ("0 0", 1), ("1 0", 1), ("0 2 1", 2), ("nought 0", 1), ("0 nought", 1),
                        ("0**2", 0), ("0*", 0), ("*2", 0), ("0*2*3", 0), ("0 1*+2", 1), ("0 1 2*02", 2), ("-0", 0),
                        ("0 1 -0*2", 2), ("-1 -2", 1), ("NOUGHT", 0), ("0 1 2 3*-0 4", 3), ("0,1", 0), ("0 1\n", 1)):
            self.assertEqual(self.both(desk, model, f"put b {row}"), (f"wrong word {at + 2}",), row)

    def test_too_many(self):
        desk, model = self.desk(*(f"put {letter} {at}" for at, letter in enumerate("abcdefghijkl")))
        for line, told in (("put m 0", "too many"), ("join m a b", "too many"), ("cross m a a", "too many"),
                           ("put a 0", "there already"), ("join m a n", "not there"), ("undo", "groups 1"),
                           ("join m a b", "groups 1"), ("put n 0", "too many"), ("strike a", "groups 1"),
                           ("cross n b m", "groups 1"), ("put o nought", "too many")):
            self.assertEqual(self.both(desk, model, line), (told,))
        twenty = " ".join(str(46 * p + p * p % 23) for p in range(20))
        desk, model = self.desk(f"put a {twenty}", "put b 0 1")
        for line, told in (("more a 1 1", "too many"), ("more a 0 -1", "groups 2"), ("more a 1 1", "groups 2"),
                           ("join c a b", "too many"), ("join c a a", "too many"), ("cross c a a", "too many"),
                           (f"more b 0 {TOP}", "too many"), (f"more b 0 {TOP - 1}", "groups 2"), (f"more b {-TOP} 5", "groups 2"),
                           ("join c b b", "too many"), ("more b 0 1", "too many"), ("undo", "groups 2"), ("undo", "groups 2")):
            self.assertEqual(self.both(desk, model, line), (told,))
        self.both(desk, model, "gaps a")

    def test_long_numbers(self):
        desk, model = self.desk(f"put a {-TOP} {TOP}", f"put b 0*{TOP} 1*{-TOP}", f"put c 0*{TOP} 1*{-TOP} 3*{TOP - 1}",
                                f"put d 0 {GREAT}*2 {3 * GREAT}")
        for line in ("show", "gaps a", "gaps c", "lengths a", "others a", "missed a b", "missed c b", "same a b", "parts a a",
                     "parts b b", "parts b c", "strip a", "groups", "lengths d", "missed d a", "parts d d"):
            if line.startswith("others"):
                self.assertEqual(desk.say(line), ("only",))
            else:
                self.both(desk, model, line)

    def test_long_ways(self):
        for seed in range(8):
            rng = dice(1700 + seed)
            desk, model = self.desk()
            for _ in range(150):
                self.both(desk, model, self.some_line(rng, model))
            while self.both(desk, model, "undo") != ("nothing",):
                pass

    def some_line(self, rng, model):
        """A line of any kind, now and then bent."""
        names = list(model.rows) or ["a"]
        word = rng.choice(list(FIRST) + ["put", "put", "more", "join", "cross"])
        parts = [word]
        for at, kind in enumerate(FIRST[word]):
            if kind == "n":
                fresh = at == 0 and word in ("put", "join", "cross")
                parts.append(rng.choice(["a", "bb", "c", "d", "e", "f", "gggg", "h"] if fresh else names * 4 + ["q"]))
            elif kind == "r":
                rows = list(model.rows.values()) or [()]
                row = rng.choice((rng.choice(rows), along(back(rng.choice(rows)), 3), by_number(rng.choice(rows), -1), (),
                                  some_row(rng, rng.randint(1, 3), 4, 2), tuple((p, abs(w)) for p, w in some_row(rng, 3, 5, 2)),
                                  RULER, HOOK))
                parts.append(text_of(row))
            else:
                parts.append(str(rng.randint(-3, 6)) if kind == "p" else str(rng.choice((1, -1, 2, 0, -3))))
        line = " ".join(parts)
        if rng.randint(0, 9) == 0:
            at = rng.randint(0, len(line))
            line = line[:at] + rng.choice((" ", "x", "0", "-", "*", "1", "\n", "")) + line[at + rng.randint(0, 1):]
        return line


class Desks(unittest.TestCase):
    def test_no_text(self):
        desk = Console()
        desk.say("put a 0 1 4")
        for value in [value for value in NOT_TUPLES if not isinstance(value, str)] + [
                (), ("show",), ["show"], b"show", b"", nested(20), Odd(), Yes(), 2j]:
            wanted(self, InvalidLine, lambda value=value: desk.say(value), given=value)
        self.assertEqual(desk.say(line="show"), ("a 0 1 4",))

    def test_book(self):
        desk = Console()
        self.assertEqual([desk.book().entries(), desk.book().undo()], [(), False])
        desk.say("put a 0 1 4")
        desk.say("put m -1*2 3*-4")
        book = desk.book()
        self.assertIs(type(book), Book)
        self.assertEqual(book.entries(), (("a", RULER), ("m", MIXED)))
        book.strike("a")
        book.put("b", ())
        self.assertEqual(desk.say("show"), ("a 0 1 4", "m -1*2 3*-4"))
        desk.say("undo")
        self.assertEqual(book.entries(), (("m", MIXED), ("b", ())))
        self.assertEqual([book.undo() for _ in range(5)], [True, True, True, True, False])
        self.assertEqual(desk.say("show"), ("a 0 1 4",))
        other = Console()
        self.assertEqual(other.say("show"), ("empty",))


if __name__ == "__main__":
    unittest.main()
