"""Claims: which values are claims, and their opposites."""

from samegaps.checks import LONGEST, makes_core, makes_row
from samegaps.division import are_too_wide
from samegaps.errors import InvalidClaim
from samegaps.pairs import root_of, spread_of
from samegaps.pointchecks import is_some_point_heap, makes_points
from samegaps.pointpairs import letters_of
from samegaps.pointparts import are_narrow_points
from samegaps.rings import MOST_PLACES, is_lot, is_ring
from samegaps.rulers import are_marks, pair_twice
from samegaps.shortest import MOST_SEARCHED
from samegaps.trees import are_lengths, is_short_heap

MOST_HEAPS = 200

OPPOSITES = {
    "same": "unlike", "unlike": "same",
    "divides": "divides not", "divides not": "divides",
    "common": "not common", "not common": "common",
    "whole": "parted", "parted": "whole",
    "only": "not only", "not only": "only",
    "somebody": "nobody", "nobody": "somebody",
    "all heaps": "other heaps", "other heaps": "all heaps",
    "ruler": "no ruler", "no ruler": "ruler",
    "shortest": "not shortest", "not shortest": "shortest",
    "same round": "unlike round", "unlike round": "same round",
    "alike round": "not alike round", "not alike round": "alike round",
    "same points": "unlike points", "unlike points": "same points",
}


def is_some_row(value):
    """Whether the value, whatever it is, is a ROW other than ()."""
    return makes_row(value) and value != ()


def are_narrow_rows(parts):
    """Whether the parts are ROWs other than (), not too wide to be divided by one another."""
    return all([is_some_row(part) for part in parts]) and not are_too_wide(parts)


def are_two_rows(parts):
    """ROW and OTHER, or BY and ROW."""
    return len(parts) == 2 and are_narrow_rows(parts)


def are_rows_and_divisor(parts):
    """ROW, OTHER, DIVISOR."""
    return len(parts) == 3 and are_narrow_rows(parts) and root_of(parts[2]) == parts[2]


def is_one_core(parts):
    """BARE."""
    return len(parts) == 1 and makes_core(parts[0]) and spread_of(parts[0]) <= LONGEST


def is_one_long_row(parts):
    """LONG."""
    return len(parts) == 1 and is_some_row(parts[0]) and spread_of(parts[0]) <= LONGEST


def is_rooted_short_heap(value):
    """Whether the value, whatever it is, is a rooted HEAP of count 1 to 9."""
    return is_short_heap(value) and value[0][0] == 0


def are_claimed_heaps(value):
    """Whether the value, whatever it is, is an ascending tuple of up to 200 rooted HEAPs of count 1 to 9."""
    if not isinstance(value, tuple) or len(value) > MOST_HEAPS:
        return False
    if not all([is_rooted_short_heap(heap) for heap in value]):
        return False
    return all([heap < after for heap, after in zip(value, value[1:])])


def are_lengths_and_heaps(parts):
    """LENGTHS and HEAPS."""
    return len(parts) == 2 and are_lengths(parts[0]) and are_claimed_heaps(parts[1])


def are_only_marks(parts):
    """MARKS."""
    return len(parts) == 1 and are_marks(parts[0])


def is_one_ruler(parts):
    """RULER."""
    return are_only_marks(parts) and 1 <= len(parts[0]) <= MOST_SEARCHED and pair_twice(parts[0]) is None


def are_two_lots(parts):
    """N, LOT, MATE."""
    if len(parts) != 3 or not is_ring(parts[0], MOST_PLACES):
        return False
    return is_lot(parts[0], parts[1]) and is_lot(parts[0], parts[2])


def is_narrow_point_heap(value):
    """Whether the value, whatever it is, is a point heap other than (), narrow enough to be divided."""
    return makes_points(value) and is_some_point_heap(value) and are_narrow_points(value)


def are_two_point_heaps(parts):
    """POINTS and SPOTS."""
    if len(parts) != 2 or not all([is_narrow_point_heap(part) for part in parts]):
        return False
    return letters_of(parts[0]) == letters_of(parts[1])


LOOKS = {
    "same": are_two_rows, "unlike": are_two_rows,
    "divides": are_two_rows, "divides not": are_two_rows,
    "common": are_rows_and_divisor, "not common": are_rows_and_divisor,
    "whole": is_one_core, "parted": is_one_core,
    "only": is_one_long_row, "not only": is_one_long_row,
    "somebody": is_one_long_row, "nobody": is_one_long_row,
    "all heaps": are_lengths_and_heaps, "other heaps": are_lengths_and_heaps,
    "ruler": are_only_marks, "no ruler": are_only_marks,
    "shortest": is_one_ruler, "not shortest": is_one_ruler,
    "same round": are_two_lots, "unlike round": are_two_lots,
    "alike round": are_two_lots, "not alike round": are_two_lots,
    "same points": are_two_point_heaps, "unlike points": are_two_point_heaps,
}


def is_claim(value):
    """Whether the value, whatever it is, is a claim."""
    if not isinstance(value, tuple) or len(value) == 0:
        return False
    if not isinstance(value[0], str) or value[0] not in LOOKS:
        return False
    look = LOOKS[value[0]]
    return look(value[1:])


def need_claim(claim):
    """Refuses what is no claim."""
    if not is_claim(claim):
        raise InvalidClaim(claim)


def opposite(claim):
    """The opposite of the claim, about the same parts."""
    need_claim(claim)
    return (OPPOSITES[claim[0]], *claim[1:])
