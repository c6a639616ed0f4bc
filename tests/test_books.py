"""[B1], [G1] to [G3] and books.py."""

import unittest

from samegaps.books import Book
from samegaps.errors import Alike, InvalidName, InvalidRow, InvalidWhole, NotNow, TooMany
from samegaps.gaps import have_same
from bookmodel import Model, gaps, history, root
from samples import FOUR_HUNDRED, GREAT, MIXED, NOT_TUPLES, NOT_WHOLE, Odd, RULER, Yes, along, back, by_number, dice
from samples import nested, plus, refuses_wrong_rows, some_row, times, wanted

NO_NAMES = [value for value in NOT_TUPLES if not isinstance(value, str)] + [
    "", "abcdefghi", "A", "aB", "a1", "1", "a b", " ", " a", "a ", "a\n", "\n", "-", "_", "a_b", "\u00e4", "\u0430",
    "\uff41", "\u0131", (), ("a",), nested(20), b"a", Odd(), Yes()]
HOOK = ((0, 1), (1, 1), (3, 1))
TOP = 10 ** 400 - 1
TWENTY = tuple((46 * p + p * p % 23, p + 1) for p in range(20))


def agrees(test, book, model):
    """Each answer of the book is that of the model."""
    names = list(model.rows)
    test.assertEqual(book.entries(), tuple(model.rows.items()))
    test.assertEqual(book.groups(), model.groups())
    for name in names:
        test.assertEqual(book.row(name), model.rows[name])
        test.assertEqual(book.kept(name), gaps(model.rows[name]))
        test.assertEqual(book.forms(name), model.forms(name))
        test.assertIs(book.is_alone(name), [name] in [list(lot) for lot in model.groups()])
        for other in names:
            test.assertEqual(book.missed(name, other), model.missed(name, other))
            test.assertIs(book.missed(name, other) == (), have_same(model.rows[name], model.rows[other]))


def done(book, word, *told):
    """The deed of this word."""
    return {"put": book.put, "more": book.more, "strike": book.strike, "join": book.join, "cross": book.cross}[word](*told)


class Examples(unittest.TestCase):
    def test_of_the_document(self):
        book = Book()
        self.assertEqual([book.put("ab", ((0, 1), (1, 1), (4, 1))), book.put("c", ((0, 1), (1, 1), (3, 1))),
                          book.join("j", "ab", "c"), book.cross("x", "ab", "c"), book.groups(), book.forms("j")],
                         [None, None, None, None, (("ab",), ("c",), ("j", "x")), (("j",), ("x",))])
        self.assertEqual([book.row("j"), book.missed("ab", "c"), book.missed("j", "x"), book.is_alone("j"),
                          book.more("c", 4, 1), book.kept("c"), book.undo(), book.row("c")],
                         [((0, 1), (1, 2), (2, 1), (3, 1), (4, 2), (5, 1), (7, 1)), ((2, -1), (4, 1)), (), False, None,
                          ((-4, 1), (-3, 2), (-2, 1), (-1, 2), (0, 4), (1, 2), (2, 1), (3, 2), (4, 1)), True,
                          ((0, 1), (1, 1), (3, 1))])
        wanted(self, Alike, lambda: book.put("ab", ()))

    def test_by_hand(self):
        # The nine sums and the nine differences of 0, 1, 4 and 0, 1, 3; with 4, c has 1, 1, 2, 3, 3, 4.
        book = Book()
        book.put("a", RULER)
        book.put("c", HOOK)
        book.join("j", "a", "c")
        book.cross("x", "a", "c")
        self.assertEqual(book.row("j"), tuple((p, [0, 1, 3, 1, 2, 4, 4, 5, 7].count(p)) for p in (0, 1, 2, 3, 4, 5, 7)))
        self.assertEqual(book.row("x"), tuple((p, [0, -1, -3, 1, 0, -2, 4, 3, 1].count(p))
                                              for p in (-3, -2, -1, 0, 1, 3, 4)))
        book.more("c", 4, 1)
        self.assertEqual([pair for pair in book.kept("c") if pair[0] > 0], [(1, 2), (2, 1), (3, 2), (4, 1)])


class Deeds(unittest.TestCase):
    def test_each_by_itself(self):
        book = Book()
        self.assertEqual([book.entries(), book.groups(), book.undo(), book.entries()], [(), (), False, ()])
        self.assertIsNone(book.put("a", MIXED))
        self.assertEqual([book.entries(), book.row("a"), book.kept("a")], [(("a", MIXED),), MIXED, gaps(MIXED)])
        self.assertIsNone(book.more("a", -1, 5))
        self.assertEqual(book.row("a"), ((-1, 7), (3, -4)))
        self.assertIsNone(book.more("a", 3, 4))
        self.assertEqual([book.row("a"), book.kept("a")], [((-1, 7),), ((0, 49),)])
        self.assertIsNone(book.more("a", -1, -7))
        self.assertEqual([book.row("a"), book.kept("a"), book.entries()], [(), (), (("a", ()),)])
        self.assertIsNone(book.more("a", GREAT, -2))
        self.assertEqual([book.row("a"), book.kept("a")], [((GREAT, -2),), ((0, 4),)])
        self.assertIsNone(book.put("b", RULER))
        self.assertIsNone(book.join("c", "b", "b"))
        self.assertIsNone(book.cross("d", "b", "b"))
        self.assertEqual([book.row("c"), book.row("d")], [times(RULER, RULER), gaps(RULER)])
        self.assertIsNone(book.strike("b"))
        self.assertEqual([name for name, _ in book.entries()], ["a", "c", "d"])
        for many in range(8, -1, -1):
            self.assertIs(book.undo(), True)
            if many == 8:
                self.assertEqual([name for name, _ in book.entries()], ["a", "b", "c", "d"])
        self.assertEqual([book.entries(), book.undo(), book.undo(), book.entries()], [(), False, False, ()])

    def test_by_name(self):
        book = Book()
        book.put(name="a", row=RULER)
        book.more(name="a", place=9, weight=2)
        book.join(name="b", one="a", other="a")
        book.cross(name="c", one="a", other="a")
        book.strike(name="b")
        self.assertEqual([book.row(name="a"), book.kept(name="c")], [plus(RULER, ((9, 2),)), book.kept("c")])
        self.assertEqual([book.forms(name="a"), book.missed(name="a", other="c") == (), book.is_alone(name="a")],
                         [(("a",),), False, True])
        self.assertEqual([book.row("c"), book.entries()], [gaps(book.row("a")), (("a", book.row("a")), ("c", book.row("c")))])

    def test_nought(self):
        book = Book()
        book.put("n", ())
        book.put("a", MIXED)
        book.join("b", "a", "n")
        book.cross("c", "n", "a")
        book.cross("d", "n", "n")
        self.assertEqual([book.row(name) for name in "bcd"], [(), (), ()])
        self.assertEqual([book.groups(), book.forms("c")], [(("n", "b", "c", "d"), ("a",)), (("n", "b", "c", "d"),)])
        self.assertEqual([book.missed("n", "d"), book.missed("n", "a"), book.missed("a", "n"), book.is_alone("n")],
                         [(), ((0, -20), (4, 8)), ((0, 20), (4, -8)), False])

    def test_names(self):
        book = Book()
        for name in ("a", "z", "abcdefgh", "zzzzzzzz", "put", "nought"):
            book.put(name, RULER)
            self.assertEqual(book.entries()[-1], (name, RULER))
        self.assertEqual(book.groups(), (("a", "z", "abcdefgh", "zzzzzzzz", "put", "nought"),))

    def test_struck_and_put_again(self):
        book = Book()
        for name in "abc":
            book.put(name, RULER)
        book.strike("a")
        book.put("a", MIXED)
        self.assertEqual(book.entries(), (("b", RULER), ("c", RULER), ("a", MIXED)))
        book.undo()
        book.undo()
        self.assertEqual(book.entries(), (("a", RULER), ("b", RULER), ("c", RULER)))
        # Behind an undo another deed: what was undone is gone.
        book.undo()
        book.more("b", 0, 1)
        self.assertEqual(book.entries(), (("a", RULER), ("b", ((0, 2), (1, 1), (4, 1)))))
        self.assertEqual([book.undo() for _ in range(4)], [True, True, True, False])


class Answers(unittest.TestCase):
    def test_alike_mirrored_turned(self):
        book, model = Book(), Model()
        entries = [("a", RULER), ("b", along(RULER, 7)), ("c", by_number(along(RULER, -GREAT), -1)), ("d", back(RULER)),
                   ("e", times(RULER, HOOK)), ("f", times(RULER, back(HOOK))), ("g", along(back(times(RULER, HOOK)), 3)),
                   ("h", by_number(times(back(RULER), HOOK), -1)), ("i", ()), ("k", HOOK), ("l", by_number(RULER, 2)),
                   ("m", ((4, -1),))]
        for name, row in entries:
            book.put(name, row)
            model.deed("put", name, row)
            agrees(self, book, model)
        self.assertEqual(book.groups(), (("a", "b", "c", "d"), ("e", "f", "g", "h"), ("i",), ("k",), ("l",), ("m",)))
        self.assertEqual([book.forms("d"), book.forms("h"), book.forms("i")],
                         [(("a", "b", "c", "d"),), (("e", "g"), ("f", "h")), (("i",),)])
        for name, _ in entries[::2]:
            book.strike(name)
            model.deed("strike", name)
            agrees(self, book, model)

    def test_joined_and_crossed(self):
        rng = dice(161)
        for _ in range(40):
            book = Book()
            rows = [some_row(rng, rng.randint(1, 4), 6, 3) for _ in range(2)]
            if rng.randint(0, 2) == 0:
                rows[0] = root(gaps(rows[0]))[:20]
            book.put("a", rows[0])
            book.put("b", rows[1])
            book.join("j", "a", "b")
            book.cross("x", "a", "b")
            self.assertEqual(book.missed("j", "x"), ())
            self.assertIn("x", [lot for lot in book.groups() if "j" in lot][0])
            alike = [root(row) == root(back(row)) for row in rows]
            self.assertIs(any("x" in lot and "j" in lot for lot in book.forms("j")), alike[0] or alike[1])

    def test_long_ways(self):
        for seed in range(12):
            rng = dice(1600 + seed)
            book, model = Book(), Model()
            for _ in range(40):
                self.one_deed(rng, book, model)
                agrees(self, book, model)
            told = history(book)
            self.assertEqual(len(told), len(model.past) + 1)
            while model.undo():
                self.assertIs(book.undo(), True)
                agrees(self, book, model)
            self.assertIs(book.undo(), False)
            self.assertEqual(history(book), told[-1:])

    def one_deed(self, rng, book, model):
        """One deed, or an undo, on both."""
        names = list(model.rows)
        fresh = [name for name in ("a", "b", "cc", "d", "eeeeeeee", "f", "g", "hi", "k", "l", "m", "no") if name not in names]
        word = rng.choice(("put", "put", "more", "more", "strike", "join", "cross", "undo"))
        if word == "undo":
            self.assertIs(book.undo(), model.undo())
            return
        if word in ("put", "join", "cross") and not fresh or word != "put" and not names:
            return
        if word == "put":
            told = (rng.choice(fresh), self.some_entry(rng, model))
        elif word == "more":
            name = rng.choice(names)
            place, weight = rng.randint(-4, 9), rng.choice((1, -1, 2, -5, GREAT))
            if model.rows[name] and rng.randint(0, 1):
                place, weight = rng.choice(model.rows[name])
                weight = rng.choice((-weight, weight))
            told = (name, place, weight)
        elif word == "strike":
            told = (rng.choice(names),)
        else:
            told = (rng.choice(fresh), rng.choice(names), rng.choice(names))
        twin = Model()
        twin.rows = model.rows
        twin.deed(word, *told)
        if all(len(row) <= 20 and all(abs(n) < 10 ** 400 for pair in row for n in pair) for row in twin.rows.values()):
            self.assertIsNone(done(book, word, *told))
            model.deed(word, *told)
        else:
            ahead = history(book)
            wanted(self, TooMany, lambda: done(book, word, *told))
            self.assertEqual(history(book), ahead)

    def some_entry(self, rng, model):
        """A row of any kind, often one like those that are there."""
        if model.rows and rng.randint(0, 1):
            row = rng.choice(list(model.rows.values()))
            return rng.choice((row, back(row), along(row, 5), by_number(row, -1)))
        return rng.choice(((), RULER, times(RULER, HOOK)[:20], some_row(rng, rng.randint(1, 4), 5, 2),
                           some_row(rng, 3, 5, GREAT)))


class Bounds(unittest.TestCase):
    def full(self, many):
        """A book of so many entries."""
        book = Book()
        for letter in "abcdefghijkl"[:many]:
            book.put(letter, RULER)
        return book

    def refused(self, book, error, word, *told):
        """The deed is refused and changes nothing, nor what undo takes back."""
        ahead, groups = history(book), book.groups()
        wanted(self, error, lambda: done(book, word, *told))
        self.assertEqual(history(book), ahead)
        self.assertEqual(book.groups(), groups)

    def test_twelve_entries(self):
        deeds = (("put", (RULER,)), ("put", ((),)), ("join", ("a", "b")), ("cross", ("a", "a")))
        for word, told in deeds:
            book = self.full(11)
            done(book, word, "m", *told)
            self.assertEqual(len(book.entries()), 12)
            for again, more in deeds:
                self.refused(book, TooMany, again, "n", *more)
                self.refused(book, Alike, again, "m", *more)
            self.refused(book, NotNow, "join", "n", "a", "o")
            self.refused(book, NotNow, "cross", "n", "o", "a")
            book.more("a", 2, 1)
            book.strike("c")
            done(book, word, "n", *told)
            self.assertEqual(len(book.entries()), 12)

    def test_twenty_pairs(self):
        book = Book()
        book.put("a", TWENTY)
        self.assertEqual(book.kept("a"), gaps(TWENTY))
        self.assertEqual(len(book.kept("a")), 381)
        self.refused(book, TooMany, "put", "b", TWENTY + ((9999, 1),))
        self.refused(book, TooMany, "put", "b", FOUR_HUNDRED)
        self.refused(book, TooMany, "more", "a", 1, 1)
        book.more("a", 47, 1)
        book.more("a", 0, -1)
        book.more("a", 1, GREAT)
        self.assertEqual(len(book.row("a")), 20)
        self.assertEqual(book.kept("a"), gaps(book.row("a")))
        self.refused(book, TooMany, "more", "a", 2, 1)
        book.put("u", ((0, 1), (1, 1), (2, 1), (3, 1), (4, 1)))
        book.put("v", ((0, 1), (5, 1), (10, 1), (15, 1)))
        book.put("w", ((0, 1), (5, 1), (10, 1), (15, 1), (20, -1)))
        book.join("y", "u", "v")
        book.cross("z", "v", "u")
        self.assertEqual([len(book.row("y")), len(book.row("z"))], [20, 20])
        for word in ("join", "cross"):
            self.refused(book, TooMany, word, "n", "u", "w")
            self.refused(book, TooMany, word, "n", "a", "a")
        # What comes to 0 doesn't count: 1 - x times 1 + x and so on is 1 - x^25.
        book.put("c", tuple((p, 1) for p in range(20)))
        book.put("d", ((0, 1), (1, -1)))
        book.join("e", "c", "d")
        self.assertEqual(book.row("e"), ((0, 1), (20, -1)))

    def test_figures(self):
        for number in (TOP, -TOP):
            book = Book()
            book.put("a", ((number, 1),))
            book.put("b", ((0, number),))
            book.put("c", ((0, 1),))
            book.more("c", number, 1)
            book.put("d", ((0, 1),))
            book.more("d", 3, number)
            self.assertEqual([book.row("a"), book.row("b")], [((number, 1),), ((0, number),)])
            self.assertEqual([book.kept(name) for name in "abcd"], [gaps(book.row(name)) for name in "abcd"])
            more = number + (1 if number > 0 else -1)
            self.refused(book, TooMany, "put", "e", ((more, 1),))
            self.refused(book, TooMany, "put", "e", ((0, more),))
            self.refused(book, TooMany, "put", "e", tuple(sorted(((0, 1), (more, 1)))))
            self.refused(book, TooMany, "more", "a", more, 1)
            self.refused(book, TooMany, "more", "a", 0, more)
            self.refused(book, TooMany, "more", "b", 0, 1 if number > 0 else -1)
            self.refused(book, TooMany, "more", "b", 0, number)

    def test_figures_of_products(self):
        half, other = 10 ** 200, 10 ** 199
        book = Book()
        book.put("a", ((0, half),))
        book.put("b", ((0, other), (1, 1)))
        book.put("c", ((TOP, 1),))
        book.put("d", ((1, 1),))
        book.put("e", ((-1, -1),))
        for word in ("join", "cross"):
            done(book, word, "x", "a", "b")
            self.assertEqual(max(abs(weight) for _, weight in book.row("x")), 10 ** 399)
            book.undo()
            self.refused(book, TooMany, word, "x", "a", "a")
        self.refused(book, TooMany, "join", "x", "c", "d")
        self.refused(book, TooMany, "cross", "x", "c", "e")
        self.refused(book, TooMany, "join", "x", "c", "c")
        book.join("x", "c", "e")
        book.cross("y", "c", "d")
        book.cross("z", "c", "c")
        self.assertEqual([book.row("x"), book.row("y"), book.row("z")], [((TOP - 1, -1),), ((TOP - 1, 1),), ((0, 1),)])

    def test_behind_the_deed(self):
        # What is given may have more figures, if the entry behind the deed has not; a pair taken away doesn't count.
        book = Book()
        book.put("a", ((0, -TOP), (1, 1)))
        book.more("a", 0, TOP + 1)
        self.assertEqual(book.row("a"), ((0, 1), (1, 1)))
        self.assertEqual(book.kept("a"), ((-1, 1), (0, 2), (1, 1)))


class Refused(unittest.TestCase):
    def book(self):
        book = Book()
        book.put("a", RULER)
        book.put("b", MIXED)
        book.join("c", "a", "b")
        book.more("a", 3, -2)
        book.strike("b")
        return book

    def check(self, book, ahead):
        self.assertEqual(history(book), ahead)

    def test_names(self):
        book = self.book()
        ahead = history(book)
        for value in NO_NAMES:
            for call in (lambda v: book.put(v, RULER), lambda v: book.put(v, None), lambda v: book.more(v, 0, 1),
                         lambda v: book.more(v, None, 0), book.strike, lambda v: book.join(v, "a", "c"),
                         lambda v: book.join(v, None, None), lambda v: book.join("d", v, "c"),
                         lambda v: book.join("a", v, None), lambda v: book.join("d", "a", v),
                         lambda v: book.join("a", "x", v), lambda v: book.cross(v, "a", "c"),
                         lambda v: book.cross(v, None, None), lambda v: book.cross("d", v, "c"),
                         lambda v: book.cross("a", v, None), lambda v: book.cross("d", "a", v),
                         lambda v: book.cross("a", "x", v), book.row, book.kept, book.forms, book.is_alone,
                         lambda v: book.missed(v, "a"), lambda v: book.missed(v, None), lambda v: book.missed("a", v),
                         lambda v: book.missed("x", v)):
                wanted(self, InvalidName, lambda call=call, value=value: call(value), given=value)
        self.check(book, ahead)

    def test_rows_and_numbers(self):
        book = self.book()
        ahead = history(book)
        refuses_wrong_rows(self, InvalidRow, lambda row: book.put("d", row))
        refuses_wrong_rows(self, InvalidRow, lambda row: book.put("a", row))
        for value in NOT_WHOLE:
            for name in ("a", "x"):
                wanted(self, InvalidWhole, lambda name=name, value=value: book.more(name, value, 1), given=value)
                wanted(self, InvalidWhole, lambda name=name, value=value: book.more(name, value, 0), given=value)
                wanted(self, InvalidWhole, lambda name=name, value=value: book.more(name, 0, value), given=value)
        for name in ("a", "x"):
            wanted(self, InvalidWhole, lambda name=name: book.more(name, 0, 0), given=0)
            wanted(self, InvalidWhole, lambda name=name: book.more(name, 3, 0), given=0)
        self.check(book, ahead)

    def test_there_and_not_there(self):
        book = self.book()
        ahead = history(book)
        for call in (lambda: book.put("a", RULER), lambda: book.put("c", FOUR_HUNDRED), lambda: book.put("a", ()),
                     lambda: book.join("a", "a", "a"), lambda: book.join("a", "x", "y"), lambda: book.cross("c", "a", "a"),
                     lambda: book.cross("c", "x", "y"), lambda: book.join("c", "x", "c"), lambda: book.cross("a", "a", "b")):
            wanted(self, Alike, call)
        for call in (lambda: book.more("b", 0, 1), lambda: book.more("x", 10 ** 400, 1), lambda: book.strike("b"),
                     lambda: book.strike("x"), lambda: book.join("b", "b", "a"), lambda: book.join("x", "a", "x"),
                     lambda: book.cross("b", "a", "b"), lambda: book.cross("x", "y", "z"), lambda: book.row("b"),
                     lambda: book.kept("aa"), lambda: book.forms("b"), lambda: book.is_alone("z"),
                     lambda: book.missed("b", "a"), lambda: book.missed("a", "b"), lambda: book.missed("x", "x")):
            wanted(self, NotNow, call)
        self.check(book, ahead)
        empty = Book()
        for call in (lambda: empty.row("a"), lambda: empty.strike("a"), lambda: empty.join("a", "b", "c")):
            wanted(self, NotNow, call)
        self.assertEqual([empty.entries(), empty.undo()], [(), False])

    def test_twin(self):
        book = self.book()
        ahead = history(book)
        twin, still = book.twin(), book.twin()
        self.assertIs(type(twin), Book)
        twin.put("d", HOOK)
        twin.strike("a")
        self.check(book, ahead)
        self.check(still, ahead)
        book.more("c", 0, 1)
        book.undo()
        book.undo()
        book.undo()
        book.strike("b")
        self.check(still, ahead)
        self.assertEqual([name for name, _ in twin.entries()], ["c", "d"])
        self.assertEqual(history(twin)[2:], ahead)
        self.assertEqual([name for name, _ in book.entries()], ["a", "c"])
        self.assertEqual([book.undo() for _ in range(5)], [True, True, True, True, False])
        self.check(still, ahead)
        self.assertEqual([Book().twin().entries(), Book().twin().undo()], [(), False])


if __name__ == "__main__":
    unittest.main()
