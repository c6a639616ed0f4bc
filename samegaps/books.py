"""Books: named rows, deeds on them that can be undone, and what their differences tell."""

from samegaps.checks import need_row, need_whole
from samegaps.errors import Alike, InvalidName, InvalidWhole, NotNow, TooMany
from samegaps.gaps import gaps_grown, row_at
from samegaps.pairs import gaps_in, mirror, multiple_of, product_of, root_of, sum_of
from samegaps.wholes import power

LETTERS = "abcdefghijklmnopqrstuvwxyz"
MOST_LETTERS = 8
MOST_ENTRIES = 12
MOST_PAIRS_KEPT = 20
MOST_FIGURES = 400


def is_name(value):
    """Whether the value, whatever it is, is a name."""
    if not isinstance(value, str) or len(value) < 1 or len(value) > MOST_LETTERS:
        return False
    return all([letter in LETTERS for letter in value])


def need_name(name):
    """Refuses what is no name."""
    if not is_name(name):
        raise InvalidName(name)


def need_weight(weight):
    """Refuses what is no whole number other than 0."""
    need_whole(weight)
    if weight == 0:
        raise InvalidWhole(weight)


def need_small(row):
    """Refuses a row of more pairs, or with numbers of more figures, than a book keeps."""
    bound = power(10, MOST_FIGURES)
    if len(row) > MOST_PAIRS_KEPT or any([abs(number) >= bound for pair in row for number in pair]):
        raise TooMany()


def names_by(entries, keys):
    """The lots of names with the same key, in the order of their first entries."""
    lots = {}
    for entry, key in zip(entries, keys):
        lots.setdefault(key, []).append(entry[0])
    return tuple([tuple(lot) for lot in lots.values()])


def form_of(row):
    """What just the rows have in common that are alike with this one, or with it mirrored."""
    return min(root_of(row), root_of(mirror(row)))


class Book:
    """Up to twelve entries, each a name and a row, with its differences kept along."""

    def __init__(self):
        # The entries are (NAME, ROW, DIFFERENCES); no deed changes a tuple, so undo takes an old one back.
        self._now = ()
        self._past = []

    def _entry(self, name):
        """The entry of a name that is to be there."""
        for entry in self._now:
            if entry[0] == name:
                return entry
        raise NotNow()

    def _asked(self, name):
        """The entry of a name, looked at."""
        need_name(name)
        return self._entry(name)

    def _need_new(self, name):
        """Refuses a name that is there."""
        if name in [entry[0] for entry in self._now]:
            raise Alike()

    def _become(self, entries):
        """The end of each deed: takes the entries, and keeps those ahead of it for undo."""
        self._past.append(self._now)
        self._now = entries

    def _add(self, name, row):
        """Puts an entry behind those that are there."""
        if len(self._now) >= MOST_ENTRIES:
            raise TooMany()
        need_small(row)
        self._become((*self._now, (name, row, gaps_in(row))))

    def _two_rows(self, name, one, other):
        """The rows of two names that are to make the entry of a new one."""
        need_name(name)
        need_name(one)
        need_name(other)
        self._need_new(name)
        return self._entry(one)[1], self._entry(other)[1]

    def put(self, name, row):
        """Puts an entry."""
        need_name(name)
        need_row(row)
        self._need_new(name)
        self._add(name, row)

    def more(self, name, place, weight):
        """Gives an entry so much more WEIGHT at the place."""
        need_name(name)
        need_whole(place)
        need_weight(weight)
        _, row, gaps = self._entry(name)
        grown = sum_of(row, row_at(place, weight))
        need_small(grown)
        changed = (name, grown, gaps_grown(gaps, row, place, weight))
        self._become(tuple([changed if entry[0] == name else entry for entry in self._now]))

    def strike(self, name):
        """Strikes an entry."""
        self._asked(name)
        self._become(tuple([entry for entry in self._now if entry[0] != name]))

    def join(self, name, one, other):
        """Puts the product of two entries under a new name."""
        row, far = self._two_rows(name, one, other)
        self._add(name, product_of(row, far))

    def cross(self, name, one, other):
        """Puts the product of the first entry and the second one mirrored under a new name."""
        row, far = self._two_rows(name, one, other)
        self._add(name, product_of(row, mirror(far)))

    def undo(self):
        """Takes the last deed back; whether there was one."""
        if not self._past:
            return False
        self._now = self._past.pop()
        return True

    def entries(self):
        """The tuple of all (NAME, ROW)."""
        return tuple([(name, row) for name, row, _ in self._now])

    def row(self, name):
        """The row of a name."""
        return self._asked(name)[1]

    def kept(self, name):
        """The differences of a name's row."""
        return self._asked(name)[2]

    def groups(self):
        """The lots of names whose rows have the same differences."""
        return names_by(self._now, [entry[2] for entry in self._now])

    def forms(self, name):
        """Of the group of a name the lots of names whose rows are alike, or alike with the others mirrored."""
        gaps = self._asked(name)[2]
        group = [entry for entry in self._now if entry[2] == gaps]
        return names_by(group, [form_of(entry[1]) for entry in group])

    def missed(self, name, other):
        """The pairs (PLACE, HOW_MUCH) at which the differences of both are unlike, and how much more the first has."""
        need_name(name)
        need_name(other)
        gaps, far = self._entry(name)[2], self._entry(other)[2]
        return tuple([pair for pair in sum_of(gaps, multiple_of(far, -1)) if pair[0] >= 0])

    def is_alone(self, name):
        """Whether no other entry is in the group of this one."""
        gaps = self._asked(name)[2]
        return [entry[2] for entry in self._now].count(gaps) == 1

    def twin(self):
        """A new book with the same entries and the same to undo."""
        book = Book()
        book._now = self._now
        book._past = list(self._past)
        return book
