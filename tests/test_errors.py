"""[5] and errors.py: each class, made by position and by name, its bases."""

import unittest

from samegaps import errors
from samples import GREAT, Odd, nested

WITH = {
    "index": ["InvalidRow", "InvalidLengths", "InvalidRows", "InvalidMarks", "InvalidPoints", "InvalidLot",
              "InvalidNumbers", "InvalidText", "InvalidPlaces"],
    "place": ["InvalidPicture"],
    "given": ["InvalidWhole", "InvalidHeap", "InvalidNumber", "NotCore", "NotRuler", "InvalidName", "InvalidLine",
              "InvalidClaim"],
}
WITHOUT = ["NotNow", "TooMany", "TooWide", "TooLong", "NotPlain", "Alike"]
ALL = [name for names in WITH.values() for name in names] + WITHOUT


class Errors(unittest.TestCase):
    def test_kept_attributes(self):
        odd = Odd()
        for attribute, names in WITH.items():
            for name in names:
                made = getattr(errors, name)
                for value in (None, 0, 3, True, GREAT, "x", b"", (), [1], {}, {1}, odd, nested(20), made):
                    self.assertIs(getattr(made(value), attribute), value)
                    by_name = made(**{attribute: value})
                    self.assertIs(getattr(by_name, attribute), value)
                    self.assertEqual(list(vars(by_name)), [attribute])
                with self.assertRaises(TypeError):
                    made()

    def test_without_attributes(self):
        for name in WITHOUT + ["GapError"]:
            self.assertEqual(vars(getattr(errors, name)()), {})

    def test_bases(self):
        self.assertEqual(errors.GapError.__mro__[1:], ValueError.__mro__)
        for name in ALL:
            self.assertEqual(getattr(errors, name).__bases__, (errors.GapError,))

    def test_raised_and_caught(self):
        for name in ALL:
            made = getattr(errors, name)
            error = made() if name in WITHOUT else made(1)
            for base in (made, errors.GapError, ValueError):
                with self.assertRaises(base):
                    raise error
            for other in ALL:
                if other != name:
                    self.assertNotIsInstance(error, getattr(errors, other))


if __name__ == "__main__":
    unittest.main()
