"""A book of the tests' own, which reckons each answer from nothing."""

from samples import along, back, by_number, plus, times


def gaps(row):
    """The differences, from nothing."""
    return times(row, back(row))


def root(row):
    """The row from 0 on, ending above 0."""
    if row == ():
        return ()
    row = along(row, -row[0][0])
    return row if row[-1][1] > 0 else by_number(row, -1)


class Model:
    """A book of the test's own: it reckons each answer from nothing."""

    def __init__(self):
        self.rows = {}
        self.past = []

    def become(self, rows):
        self.past.append(self.rows)
        self.rows = rows

    def deed(self, word, name, *told):
        if word == "put":
            self.become({**self.rows, name: told[0]})
        elif word == "more":
            self.become({key: plus(row, (told,)) if key == name else row for key, row in self.rows.items()})
        elif word == "strike":
            self.become({key: row for key, row in self.rows.items() if key != name})
        else:
            one, other = self.rows[told[0]], self.rows[told[1]]
            self.become({**self.rows, name: times(one, other if word == "join" else back(other))})

    def undo(self):
        if not self.past:
            return False
        self.rows = self.past.pop()
        return True

    def lots(self, names, are_together):
        lots = []
        for name in names:
            found = [lot for lot in lots if are_together(self.rows[lot[0]], self.rows[name])]
            if found:
                found[0].append(name)
            else:
                lots.append([name])
        return tuple(tuple(lot) for lot in lots)

    def groups(self):
        return self.lots(self.rows, lambda one, other: gaps(one) == gaps(other))

    def forms(self, name):
        group = [key for key in self.rows if gaps(self.rows[key]) == gaps(self.rows[name])]
        return self.lots(group, lambda one, other: root(one) in (root(other), root(back(other))))

    def missed(self, name, other):
        apart = plus(gaps(self.rows[name]), by_number(gaps(self.rows[other]), -1))
        return tuple(pair for pair in apart if pair[0] >= 0)


def history(book):
    """The entries and the differences behind each undo, up to the first one."""
    book, told = book.twin(), []
    while True:
        told.append([(name, row, book.kept(name)) for name, row in book.entries()])
        if not book.undo():
            return told
