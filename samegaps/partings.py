"""Partings as papers: all atoms of a row, each with a paper that it is one."""

from samegaps.atoms import paper_of_atom, shows_atom
from samegaps.checks import LONGEST, makes_core
from samegaps.pairs import bare_of, power_of, product_of, spread_of
from samegaps.wholes import is_whole


def parting_of(atoms):
    """The parting told by the ascending pairs (atom, how often it is there)."""
    return tuple([(atom, often, paper_of_atom(atom)) for atom, often in atoms])


def is_told_atom(value):
    """Whether the value, whatever it is, is a triple of a core, how often it is told, and anything."""
    if not isinstance(value, tuple) or len(value) != 3:
        return False
    atom, often, _ = value
    return makes_core(atom) and spread_of(atom) <= LONGEST and is_whole(often) and often >= 1


def is_ascending(atoms):
    """Whether each of the atoms is above the one ahead."""
    return all([atom < after for atom, after in zip(atoms, atoms[1:])])


def make_bare_row(told, row):
    """Whether the product of the atoms, each so often, is the bare row of the row."""
    # Looked at first, the spreads let no power become great.
    if sum([spread_of(atom) * often for atom, often, _ in told]) != spread_of(row):
        return False
    total = ((0, 1),)
    for atom, often, _ in told:
        total = product_of(total, power_of(atom, often))
    return total == bare_of(row)


def is_parting(value, row):
    """Whether the value, whatever it is, is a parting of the row, not (), with a spread up to 60."""
    if not isinstance(value, tuple) or not all([is_told_atom(part) for part in value]):
        return False
    if not is_ascending([part[0] for part in value]) or not make_bare_row(value, row):
        return False
    return all([shows_atom(atom, paper) for atom, _, paper in value])
