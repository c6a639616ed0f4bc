"""Shortest rulers, by a whole search, and the least spread that windows let."""

from samegaps.errors import InvalidNumber
from samegaps.growing import may_stand
from samegaps.rulers import MOST_MARKS, lengths_in
from samegaps.wholes import is_whole

MOST_SEARCHED = 6
MOST_LENGTH = 30


def need_many(many, most):
    """Refuses what is no whole number from 1 to most."""
    if not is_whole(many) or many < 1 or many > most:
        raise InvalidNumber(many)


def window_least(many):
    """The least spread from 0 on which windows of every width let a ruler of so many marks have."""
    need_many(many, MOST_MARKS)
    least = 0
    # From many times many on a width asks nothing ([F6]).
    for width in range(1, many * many + 1):
        asked = -(-many * many * width // (many + width - 1)) - width
        least = max(least, asked)
    return least


def with_one_between(ruler):
    """The rulers with a mark more between the last but one and the last, ascending."""
    found = lengths_in(ruler)
    between = range(ruler[-2] + 1, ruler[-1])
    return [(*ruler[:-1], place, ruler[-1]) for place in between if may_stand(place, ruler, found)]


def rulers_between(many, length):
    """All rulers of so many marks, begun with 0, with just this spread, ascending."""
    if many == 1 or length == 0:
        return ((0,),) if many == 1 and length == 0 else ()
    rulers = [(0, length)]
    for _ in range(many - 2):
        rulers = [more for ruler in rulers for more in with_one_between(ruler)]
    return tuple(rulers)


def least_length(many):
    """The least spread of a ruler of so many marks."""
    length = 0
    while rulers_between(many, length) == ():
        length += 1
    return length


def rulers_of(many, length):
    """All rulers of so many marks, begun with 0, with just this spread, ascending."""
    need_many(many, MOST_SEARCHED)
    if not is_whole(length) or length < 0 or length > MOST_LENGTH:
        raise InvalidNumber(length)
    return rulers_between(many, length)


def shortest_length(many):
    """The least spread of a ruler of so many marks."""
    need_many(many, MOST_SEARCHED)
    return least_length(many)


def shortest_rulers(many):
    """All rulers of so many marks, begun with 0, of the least spread, ascending."""
    need_many(many, MOST_SEARCHED)
    return rulers_between(many, least_length(many))
