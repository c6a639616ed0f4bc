"""The console: lines of words, done on a book or asked of it."""

from samegaps.books import Book, is_name
from samegaps.division import are_too_wide
from samegaps.errors import Alike, InvalidLine, InvalidText, NotNow, TooMany
from samegaps.gaps import pair_of, standing
from samegaps.pairs import mirror, root_of, spread_of
from samegaps.pictures import MOST_STRIP, strip
from samegaps.rows import is_heap
from samegaps.rowtexts import NOUGHT, read_row, row_text
from samegaps.trees import heaps_of, is_short_heap, lengths_of
from samegaps.wholes import figures, read_whole

NONE = "none"
NO_HEAP = "no heap"

# What stands behind the first word of each line; a row takes all words that are left.
FORMS = {
    "put": ("name", "row"), "more": ("name", "place", "weight"), "strike": ("name",),
    "join": ("name", "name", "name"), "cross": ("name", "name", "name"), "undo": (),
    "show": (), "gaps": ("name",), "lengths": ("name",), "groups": (), "same": ("name", "name"),
    "missed": ("name", "name"), "parts": ("name", "name"), "strip": ("name",), "others": ("name",),
}


def is_such_line(words):
    """Whether there is a line with this first word and so many words."""
    if words[0] not in FORMS:
        return False
    form = FORMS[words[0]]
    many = len(words) - 1
    return many == len(form) or ("row" in form and many > len(form))


def read_word(word, kind):
    """What a word tells, None if it is none of its kind."""
    if kind == "name":
        return word if is_name(word) else None
    number = read_whole(word)
    return None if kind == "weight" and number == 0 else number


def read_parts(words):
    """(PARTS, WRONG): what the words behind the first one tell, and the index of the first wrong one, or None."""
    parts = []
    for at, kind in enumerate(FORMS[words[0]], 1):
        if kind == "row":
            try:
                parts.append(read_row(" ".join(words[at:])))
            except InvalidText as wrong:
                return [], at + wrong.index
        else:
            part = read_word(words[at], kind)
            if part is None:
                return [], at
            parts.append(part)
    return parts, None


def tell_show(book, parts):
    """Each entry, or that there is none."""
    texts = [name + " " + row_text(row) for name, row in book.entries()]
    return tuple(texts) if texts else ("empty",)


def tell_gaps(book, parts):
    """The differences."""
    return (row_text(book.kept(parts[0])),)


def tell_lengths(book, parts):
    """The lengths of a heap of few marks."""
    heap = book.row(parts[0])
    if not is_short_heap(heap):
        return (NO_HEAP,)
    lengths = lengths_of(heap)
    return (" ".join([figures(length) for length in lengths]) if lengths else NONE,)


def tell_groups(book, parts):
    """The names of each group."""
    return tuple([" ".join(names) for names in book.groups()])


def tell_same(book, parts):
    """How two entries stand to one another."""
    row, other = book.row(parts[0]), book.row(parts[1])
    return (NOUGHT if row == () or other == () else standing(row, other),)


def tell_missed(book, parts):
    """Each place at which the differences are unlike, and how much more the first entry has."""
    texts = [figures(place) + ":" + figures(many) for place, many in book.missed(parts[0], parts[1])]
    return tuple(texts) if texts else (NONE,)


def tell_parts(book, parts):
    """U and V of which two entries with the same differences are made."""
    row, other = book.row(parts[0]), book.row(parts[1])
    if row == () or other == ():
        return (NOUGHT,)
    if are_too_wide((row, other)):
        return ("too wide",)
    told = pair_of(row, other)
    return ("unlike",) if told is None else (row_text(told[0]), row_text(told[1]))


def tell_strip(book, parts):
    """The strip of a heap."""
    heap = book.row(parts[0])
    if not is_heap(heap):
        return (NO_HEAP,)
    return ("too long" if spread_of(heap) > MOST_STRIP else strip(heap),)


def tell_others(book, parts):
    """The other heaps with the lengths of a heap of few marks."""
    heap = book.row(parts[0])
    if not is_short_heap(heap):
        return (NO_HEAP,)
    own = (root_of(heap), root_of(mirror(heap)))
    texts = [row_text(other) for other in heaps_of(lengths_of(heap)) if other not in own]
    return tuple(texts) if texts else ("only",)


TELLS = {
    "show": tell_show, "gaps": tell_gaps, "lengths": tell_lengths, "groups": tell_groups, "same": tell_same,
    "missed": tell_missed, "parts": tell_parts, "strip": tell_strip, "others": tell_others,
}


def do_deed(book, word, parts):
    """The deed of a line, and how many groups there are behind it."""
    if word == "put":
        book.put(parts[0], parts[1])
    elif word == "more":
        book.more(parts[0], parts[1], parts[2])
    elif word == "strike":
        book.strike(parts[0])
    elif word == "join":
        book.join(parts[0], parts[1], parts[2])
    elif word == "cross":
        book.cross(parts[0], parts[1], parts[2])
    elif not book.undo():
        return ("nothing",)
    return (f"groups {len(book.groups())}",)


def answer_to(book, word, parts):
    """The answer to a line without wrong words; the book refuses what can't be done or asked."""
    if word in TELLS:
        tell = TELLS[word]
        return tell(book, parts)
    return do_deed(book, word, parts)


class Console:
    """A book that is told what to do, and asked, by lines."""

    def __init__(self):
        self._own = Book()

    def say(self, line):
        """The answer to a line, a tuple of texts."""
        if not isinstance(line, str):
            raise InvalidLine(line)
        words = line.split(" ")
        if not is_such_line(words):
            return ("no such line",)
        parts, wrong = read_parts(words)
        if wrong is not None:
            return (f"wrong word {wrong}",)
        try:
            return answer_to(self._own, words[0], parts)
        except Alike:
            return ("there already",)
        except NotNow:
            return ("not there",)
        except TooMany:
            return ("too many",)

    def book(self):
        """A twin of the book."""
        return self._own.twin()
