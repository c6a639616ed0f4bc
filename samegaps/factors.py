"""Factors of rows: cores, slopes, layers, atoms."""

from samegaps.checks import LONGEST, makes_core, need_core, need_row, need_short, need_some
from samegaps.dense import row_from, weights_of
from samegaps.division import quotient_of
from samegaps.errors import InvalidNumber, InvalidRows, TooLong
from samegaps.pairs import bare_of, content_of, moved, multiple_of, power_of, product_of, spread_of
from samegaps.parting import all_atoms, layers_of
from samegaps.wholes import is_whole


def core_parts(row):
    """(SIGN, CONTENT, PLACE, BARE) of a row other than ()."""
    sign = 1 if row[-1][1] > 0 else -1
    return (sign, content_of(row), row[0][0], bare_of(row))


def atoms_in(row):
    """The ascending tuple of the pairs (atom, how often it is there) of a row other than ()."""
    found = all_atoms(weights_of(bare_of(row), 1))
    return tuple(sorted([(row_from(atom, 1, 0), often) for atom, often in found]))


def core_of(row):
    """(SIGN, CONTENT, PLACE, BARE): the row is SIGN times CONTENT times BARE shifted by PLACE."""
    need_row(row)
    need_some(row)
    return core_parts(row)


def slope(row):
    """The row with each WEIGHT times its PLACE."""
    need_row(row)
    return tuple([(place, weight * place) for place, weight in row if place])


def need_parts(row):
    """The looks at a row that is to be parted."""
    need_row(row)
    need_some(row)
    need_short(row)


def layers(row):
    """The pairs (k, CORE), CORE the product of the atoms that are in the row just k times."""
    need_parts(row)
    found = layers_of(weights_of(bare_of(row), 1))
    return tuple([(often, row_from(layer, 1, 0)) for often, layer in found])


def parted(row):
    """(SIGN, CONTENT, PLACE, ATOMS) of the row."""
    need_parts(row)
    sign, content, place, _ = core_parts(row)
    return (sign, content, place, atoms_in(row))


def first_wrong_atom(atoms):
    """The index of the first element of a tuple that is no pair of a core and a number from 1 on; None."""
    for at, value in enumerate(atoms):
        if not isinstance(value, tuple) or len(value) != 2:
            return at
        if not makes_core(value[0]) or not is_whole(value[1]) or value[1] < 1:
            return at
    return None


def put_together(sign, content, place, atoms):
    """The row of a sign, a content, a first place, and cores, each so often."""
    if not is_whole(sign) or abs(sign) != 1:
        raise InvalidNumber(sign)
    if not is_whole(content) or content < 1:
        raise InvalidNumber(content)
    if not is_whole(place):
        raise InvalidNumber(place)
    if not isinstance(atoms, tuple):
        raise InvalidRows(None)
    at = first_wrong_atom(atoms)
    if at is not None:
        raise InvalidRows(at)
    if sum([spread_of(atom) * often for atom, often in atoms]) > LONGEST:
        raise TooLong()
    total = ((0, 1),)
    for atom, often in atoms:
        total = product_of(total, power_of(atom, often))
    return moved(multiple_of(total, sign * content), place)


def is_one_atom(row):
    """Whether a row, not too long, is an atom."""
    return makes_core(row) and atoms_in(row) == ((row, 1),)


def is_atom(row):
    """Whether the row itself is an atom."""
    need_row(row)
    need_short(row)
    return is_one_atom(row)


def how_often(row, core):
    """How often the core divides the row."""
    need_row(row)
    need_core(core)
    need_some(row)
    need_short(row)
    need_short(core)
    often = 0
    left = quotient_of(row, core)
    while left is not None:
        often += 1
        left = quotient_of(left, core)
    return often
