"""Marks, the lengths they measure, rulers."""

from samegaps.checks import need_row
from samegaps.errors import InvalidMarks, InvalidNumber, NotPlain
from samegaps.wholes import is_whole

MOST_MARKS = 60
MOST_LENGTH = 4000


def first_wrong_mark(values):
    """The index of the first element of a tuple that keeps it from being MARKS, None for none."""
    for at, value in enumerate(values):
        if not is_whole(value) or (at > 0 and value <= values[at - 1]):
            return at
    return None


def are_marks(value):
    """Whether the value, whatever it is, are MARKS."""
    return isinstance(value, tuple) and len(value) <= MOST_MARKS and first_wrong_mark(value) is None


def need_marks(marks):
    """Refuses what are no MARKS."""
    if not isinstance(marks, tuple) or len(marks) > MOST_MARKS:
        raise InvalidMarks(None)
    at = first_wrong_mark(marks)
    if at is not None:
        raise InvalidMarks(at)


def plain_row(marks):
    """The plain HEAP of the marks."""
    need_marks(marks)
    return tuple([(mark, 1) for mark in marks])


def places_of(row):
    """The MARKS of a plain HEAP."""
    need_row(row)
    if len(row) > MOST_MARKS or any([weight != 1 for _, weight in row]):
        raise NotPlain()
    return tuple([place for place, _ in row])


def gaps_of(marks):
    """The differences of neighbours, in order."""
    need_marks(marks)
    return tuple([after - ahead for ahead, after in zip(marks, marks[1:])])


def lengths_in(marks):
    """A dict of True for each length of the marks."""
    return {high - low: True for at, high in enumerate(marks) for low in marks[:at]}


def pair_twice(marks):
    """(LENGTH, PAIR, MORE) of two unlike pairs of marks with this length, None for a ruler."""
    found = {}
    for at, high in enumerate(marks):
        for low in marks[:at]:
            length = high - low
            if length in found:
                return (length, found[length], (low, high))
            found[length] = (low, high)
    return None


def measured(marks):
    """The lengths of the marks, ascending."""
    need_marks(marks)
    return tuple(sorted(lengths_in(marks)))


def is_ruler(marks):
    """Whether no two unlike pairs of the marks have one length."""
    need_marks(marks)
    return pair_twice(marks) is None


def twice(marks):
    """(LENGTH, PAIR, MORE) of two unlike pairs of marks with this length, None for a ruler."""
    need_marks(marks)
    return pair_twice(marks)


def missing(marks, most):
    """The lengths from 1 to most that are not measured, ascending."""
    need_marks(marks)
    if not is_whole(most) or most < 0 or most > MOST_LENGTH:
        raise InvalidNumber(most)
    found = lengths_in(marks)
    return tuple([length for length in range(1, most + 1) if length not in found])


def is_complete(marks):
    """Whether the marks measure each length from 1 to their spread."""
    need_marks(marks)
    # The lengths are unlike and lie from 1 to the spread, so they are all if they are as many.
    return marks == () or len(lengths_in(marks)) == marks[-1] - marks[0]


def ruler_part(marks):
    """How many of the first marks, at most, are a ruler."""
    need_marks(marks)
    found = pair_twice(marks)
    # The pairs are looked at in the order of their higher marks; so those below the first wrong one are a ruler.
    return len(marks) if found is None else marks.index(found[2][1])
