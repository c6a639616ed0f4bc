"""Heaps told by the lengths between their marks: one tree tells them all, and that there are no others."""

from samegaps.errors import InvalidHeap, InvalidLengths
from samegaps.pairs import row_of
from samegaps.rows import is_heap, marks_in
from samegaps.wholes import is_whole

MOST_MARKS = 9
HEAP = ("heap",)
LACKS = "lacks"


def is_short_heap(value):
    """Whether the value, whatever it is, is a HEAP of count 1 to 9."""
    return is_heap(value) and 1 <= sum([weight for _, weight in value]) <= MOST_MARKS


def need_short_heap(heap):
    """Refuses what is no HEAP of count 1 to 9."""
    if not is_short_heap(heap):
        raise InvalidHeap(heap)


def is_let_number(many):
    """Whether so many lengths are those of 1 to 9 marks."""
    return many in [marks * (marks - 1) // 2 for marks in range(1, MOST_MARKS + 1)]


def first_wrong_length(values):
    """The index of the first element of a tuple that is no length or below the one ahead, None for none."""
    for at, value in enumerate(values):
        if not is_whole(value) or value < 0 or (at > 0 and value < values[at - 1]):
            return at
    return None


def are_lengths(value):
    """Whether the value, whatever it is, are LENGTHS."""
    return isinstance(value, tuple) and is_let_number(len(value)) and first_wrong_length(value) is None


def need_lengths(lengths):
    """Refuses what are no LENGTHS."""
    if not isinstance(lengths, tuple):
        raise InvalidLengths(None)
    at = first_wrong_length(lengths)
    if at is not None:
        raise InvalidLengths(at)
    if not is_let_number(len(lengths)):
        raise InvalidLengths(None)


def lengths_of(heap):
    """The lengths between each two marks of the heap, ascending, as often as they come."""
    need_short_heap(heap)
    marks = marks_in(heap)
    return tuple(sorted([marks[far] - marks[at] for far in range(len(marks)) for at in range(far)]))


def first_marks(lengths):
    """The marks that are placed first: both ends, or the only one."""
    return [0, lengths[-1]] if lengths else [0]


def next_places(marks, left):
    """The places of the next mark: low, then high, low alone if both are one."""
    low, high = marks[1] - left[-1], left[-1]
    return [low] if low == high else [low, high]


def lengths_to(place, marks):
    """The lengths from a place to all marks."""
    return [abs(place - mark) for mark in marks]


def lacking(needed, left):
    """The lengths that come more often among the needed ones than they are left."""
    return [length for length in needed if needed.count(length) > left.count(length)]


def without(left, used):
    """The lengths left, ascending, but for the used ones, which are among them."""
    rest = list(left)
    for length in used:
        rest.remove(length)
    return rest


def tree_behind(marks, left):
    """The tree behind a standing."""
    if not left:
        return HEAP
    return tuple([way_to(place, marks, left) for place in next_places(marks, left)])


def way_to(place, marks, left):
    """The tree behind the way on which the next mark is at the place, or what this way lacks."""
    needed = lengths_to(place, marks)
    lacks = lacking(needed, left)
    if lacks:
        return (LACKS, max(lacks))
    return tree_behind([*marks, place], without(left, needed))


def ends_behind(marks, left):
    """The marks at all ends of the tree behind a standing."""
    if not left:
        return [marks]
    ends = []
    for place in next_places(marks, left):
        needed = lengths_to(place, marks)
        if not lacking(needed, left):
            ends.extend(ends_behind([*marks, place], without(left, needed)))
    return ends


def heap_at(marks):
    """The heap of the marks."""
    return row_of({mark: marks.count(mark) for mark in marks})


def all_ends(lengths):
    """The ascending tuple of the heaps at the ends of the tree, each once."""
    first = first_marks(lengths)
    heaps = {heap_at(marks): True for marks in ends_behind(first, lengths[:-1])}
    return tuple(sorted(heaps))


def heaps_of(lengths):
    """The ascending tuple of all rooted HEAPs with these lengths."""
    need_lengths(lengths)
    return all_ends(lengths)


def tree_of(lengths):
    """The tree of these lengths; each way that is not let tells the greatest length that it lacks."""
    need_lengths(lengths)
    return tree_behind(first_marks(lengths), lengths[:-1])


def is_tuple_of(value, many):
    """Whether the value, whatever it is, is a tuple of so many elements."""
    return isinstance(value, tuple) and len(value) == many


def is_word(value, word):
    """Whether the value, whatever it is, is just this text."""
    return isinstance(value, str) and value == word


def is_tree_behind(tree, marks, left):
    """Whether the value, whatever it is, is a tree behind a standing."""
    if not left:
        return is_tuple_of(tree, 1) and is_word(tree[0], HEAP[0])
    places = next_places(marks, left)
    if not is_tuple_of(tree, len(places)):
        return False
    return all([is_way_to(way, place, marks, left) for way, place in zip(tree, places)])


def is_way_to(way, place, marks, left):
    """Whether the value, whatever it is, tells the way on which the next mark is at the place."""
    needed = lengths_to(place, marks)
    lacks = lacking(needed, left)
    if lacks:
        return is_tuple_of(way, 2) and is_word(way[0], LACKS) and is_whole(way[1]) and way[1] in lacks
    return is_tree_behind(way, [*marks, place], without(left, needed))


def are_heaps(value):
    """Whether the value, whatever it is, is a tuple of HEAPs."""
    return isinstance(value, tuple) and all([is_heap(heap) for heap in value])


def does_tell(lengths, tree, heaps):
    """Whether the tree is one of these lengths, the heaps the ascending tuple of just those at its ends."""
    need_lengths(lengths)
    if not is_tree_behind(tree, first_marks(lengths), lengths[:-1]):
        return False
    return are_heaps(heaps) and heaps == all_ends(lengths)
