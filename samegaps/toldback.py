"""Rows told back: all rows with the differences of a row, or with told differences."""

from math import isqrt

from samegaps.atoms import middle_in, pairs_in
from samegaps.checks import need_row, need_short
from samegaps.errors import TooMany
from samegaps.factors import atoms_in, need_parts
from samegaps.pairs import content_of, gaps_in, mirror, power_of, product_of, root_of

MOST_TOLD = 200


def shares_of(one, other, many):
    """All products of many factors, each of them one or other."""
    return [product_of(power_of(one, often), power_of(other, many - often)) for often in range(many + 1)]


def rows_beside(row):
    """The roots of all rows with the differences of a row, not (), by turning its factors; refused if too many."""
    atoms = atoms_in(row)
    pairs = pairs_in(atoms)
    found = 1
    for _, _, many, more in pairs:
        found = found * (many + more + 1)
    if found > MOST_TOLD:
        raise TooMany()
    start = ((0, content_of(row)),)
    for atom, often in middle_in(atoms):
        start = product_of(start, power_of(atom, often))
    rows = [start]
    for one, other, many, more in pairs:
        shares = shares_of(one, other, many + more)
        rows = [product_of(told, share) for told in rows for share in shares]
    return tuple(sorted(rows))


def heaps_among(rows):
    """Those of the rows of which all weights are above 0."""
    return tuple([row for row in rows if all([weight > 0 for _, weight in row])])


def all_rows(row):
    """The roots of all ROWs with the differences of the row, ascending."""
    need_parts(row)
    return rows_beside(row)


def all_heaps(row):
    """Those of all_rows that are HEAPs."""
    need_parts(row)
    return heaps_among(rows_beside(row))


def is_only(row):
    """Whether all ROWs with the differences of the row are alike with it or with it mirrored."""
    need_parts(row)
    known = (root_of(row), root_of(mirror(row)))
    return all([told in known for told in rows_beside(row)])


def half_of(atoms, side):
    """The row that [D2] tells: side times half as often what is alike both ways, and one of each pair as often."""
    half = ((0, side),)
    for atom, often in middle_in(atoms):
        half = product_of(half, power_of(atom, often // 2))
    for one, _, many, _ in pairs_in(atoms):
        half = product_of(half, power_of(one, many))
    return half


def one_with(told):
    """A root with these differences, None if there is none."""
    if told == ():
        return ()
    content = content_of(told)
    side = isqrt(content)
    if told != mirror(told) or side * side != content:
        return None
    # If the factors can't be shared so, or the sign is another one, this shows it.
    half = half_of(atoms_in(told), side)
    return half if gaps_in(half) == told else None


def all_with(told):
    """The roots of all rows with these differences, ascending; refused if too many."""
    one = one_with(told)
    if one is None:
        return ()
    return ((),) if one == () else rows_beside(one)


def need_told(told):
    """The looks at told differences."""
    need_row(told)
    need_short(told)


def row_with(told):
    """A root of a ROW with these differences, None if there is none."""
    need_told(told)
    return one_with(told)


def rows_with(told):
    """The roots of all ROWs with these differences, ascending."""
    need_told(told)
    return all_with(told)


def heaps_with(told):
    """Those of rows_with that are HEAPs."""
    need_told(told)
    return heaps_among(all_with(told))
