"""Rows modulo primes: residue atoms, primes that serve, lifted ones."""

from samegaps.checks import need_core, need_row, need_short
from samegaps.dense import row_from, weights_of
from samegaps.errors import InvalidNumber
from samegaps.lifting import lifted_from
from samegaps.parting import does_serve
from samegaps.resatoms import degrees_of, residue_atoms
from samegaps.residues import is_small_prime, rests
from samegaps.wholes import is_whole

MOST_TIMES = 24


def is_prime(value):
    """Whether the value, whatever it is, is a prime from 2 to 997."""
    return is_small_prime(value)


def need_prime(value):
    """Refuses what is no prime from 2 to 997."""
    if not is_small_prime(value):
        raise InvalidNumber(value)


def row_modulo(row, prime):
    """The row with the rests of its weights, noughts left out."""
    return tuple([(place, weight % prime) for place, weight in row if weight % prime])


def modulo(row, prime):
    """The row modulo the prime."""
    need_row(row)
    need_prime(prime)
    return row_modulo(row, prime)


def parted_modulo(row, prime):
    """(NUMBER, PLACE, ATOMS) of the row modulo the prime, None if it is () there."""
    need_row(row)
    need_prime(prime)
    need_short(row)
    left = row_modulo(row, prime)
    if left == ():
        return None
    atoms = [(row_from(atom, 1, 0), often) for atom, often in residue_atoms(weights_of(left, 1), prime)]
    return (left[-1][1], left[0][0], tuple(sorted(atoms)))


def need_core_and_prime(core, prime):
    """The looks at a core that is read modulo a prime, but whether it is too long."""
    need_core(core)
    need_prime(prime)


def serves(core, prime):
    """Whether the prime divides neither end of the core and leaves no residue atom in it twice."""
    need_core_and_prime(core, prime)
    need_short(core)
    return does_serve(weights_of(core, 1), prime)


def degrees(core, prime):
    """The spreads of the residue atoms, ascending, as often as they are there; None for a bad end."""
    need_core_and_prime(core, prime)
    need_short(core)
    return degrees_by(core, prime)


def degrees_by(core, prime):
    """The same for a core that is not too long."""
    if core[0][1] % prime == 0 or core[-1][1] % prime == 0:
        return None
    return tuple(degrees_of(rests(weights_of(core, 1), prime), prime))


def lifted(core, prime, times):
    """The lifted ones of the core modulo the prime, times by itself; None if it doesn't serve."""
    need_core_and_prime(core, prime)
    if not is_whole(times) or times < 1 or times > MOST_TIMES:
        raise InvalidNumber(times)
    need_short(core)
    weights = weights_of(core, 1)
    if not does_serve(weights, prime):
        return None
    found = residue_atoms(rests(weights, prime), prime)
    ascending = [weights_of(row, 1) for row in sorted([row_from(atom, 1, 0) for atom, _ in found])]
    return tuple([row_from(part, 1, 0) for part in lifted_from(weights, ascending, prime, times)])
