"""Texts of rows, there and back."""

from samegaps.checks import MOST_PAIRS, need_row
from samegaps.errors import InvalidText
from samegaps.wholes import figures, read_whole

NOUGHT = "nought"


def row_text(row):
    """The text of the row."""
    need_row(row)
    if row == ():
        return NOUGHT
    return " ".join([pair_text(place, weight) for place, weight in row])


def pair_text(place, weight):
    """The word for one pair."""
    if weight == 1:
        return figures(place)
    return figures(place) + "*" + figures(weight)


def read_row(text):
    """The row with just this text."""
    if not isinstance(text, str):
        raise InvalidText(None)
    words = text.split(" ")
    if words[0] == NOUGHT:
        if len(words) > 1:
            raise InvalidText(1)
        return ()
    pairs = []
    for at, word in enumerate(words):
        pair = read_pair(word)
        if pair is None or at >= MOST_PAIRS:
            raise InvalidText(at)
        if at > 0 and pair[0] <= pairs[-1][0]:
            raise InvalidText(at)
        pairs.append(pair)
    return tuple(pairs)


def read_pair(word):
    """The pair with just this word, None if there is none."""
    head, star, tail = word.partition("*")
    place = read_whole(head)
    if place is None:
        return None
    if star == "":
        return (place, 1)
    weight = read_whole(tail)
    if weight is None or weight == 0 or weight == 1:
        return None
    return (place, weight)
