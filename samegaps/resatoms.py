"""Parting modulo a prime: into lists by degree, then into residue atoms."""

from samegaps.dense import slope_list
from samegaps.residues import common_modulo, ended_by_one, minus, parted_by, plus, power_modulo, rest_of, rests, times


def leaves_no_twice(weights, prime):
    """Whether no residue atom is twice in a list modulo the prime."""
    slope = rests(slope_list(weights), prime)
    return slope != [] and len(common_modulo(weights, slope, prime)) == 1


def frobenius(part, prime):
    """For each place below the spread of part: x to this place, prime times by itself, its rest by part."""
    first = power_modulo([0, 1], prime, part, prime)
    rows = [rest_of([1], part, prime)]
    for _ in range(len(part) - 2):
        rows.append(rest_of(times(rows[-1], first, prime), part, prime))
    return rows


def raised(weights, rows, prime):
    """The list prime times by itself: each weight stays, each place is led by the rows."""
    out = [0] * len(rows)
    for weight, row in zip(weights, rows):
        if weight:
            for at, more in enumerate(row):
                out[at] += weight * more
    return rests(out, prime)


def by_degree(weights, prime):
    """The pairs (degree, list): each list the product of unlike residue atoms of this degree.

    All lists together have each atom as often as it is in the weights, of which the last one is 1.
    An atom of a degree divides x, prime times by itself so often, less x.
    """
    left = weights
    out = []
    rows = frobenius(weights, prime) if len(weights) > 1 else []
    tower = rest_of([0, 1], weights, prime)
    degree = 0
    while len(left) > 1:
        degree += 1
        if 2 * degree > len(left) - 1:
            out.append((len(left) - 1, left))
            return out
        tower = raised(tower, rows, prime)
        shared = common_modulo(left, minus(tower, [0, 1], prime), prime)
        while len(shared) > 1:
            out.append((degree, shared))
            left = parted_by(left, shared, prime)[0]
            shared = common_modulo(shared, left, prime)
    return out


def degrees_of(weights, prime):
    """The spreads of the residue atoms, ascending, each as often as they are there."""
    out = []
    for degree, part in by_degree(ended_by_one(weights, prime), prime):
        out.extend([degree] * ((len(part) - 1) // degree))
    return out


def trace_of(weights, rows, degree, prime):
    """The sum of the list and its images, degree of them: a number modulo each atom of this degree."""
    total = image = weights
    for _ in range(degree - 1):
        image = raised(image, rows, prime)
        total = plus(total, image, prime)
    return total


def split_once(part, trace, prime):
    """A divisor of part, neither 1 nor all of it, that the trace tells.

    The trace is no number modulo part, so two atoms have unlike ones; for some shift just one of
    both is a square other than 0, since the squares, shifted, are never the same ones.
    """
    if prime == 2:
        return common_modulo(part, trace, prime)
    shift = 0
    while True:
        told = power_modulo(plus(trace, [shift], prime), prime // 2, part, prime)
        shared = common_modulo(part, minus(told, [1], prime), prime)
        if 1 < len(shared) < len(part):
            return shared
        shift += 1


def split_by(part, trace, degree, prime):
    """The parts of a product of atoms of one degree modulo which the trace is a number."""
    rest = rest_of(trace, part, prime)
    if len(part) - 1 == degree or len(rest) < 2:
        return [part]
    one = split_once(part, rest, prime)
    other = parted_by(part, one, prime)[0]
    return split_by(one, rest, degree, prime) + split_by(other, rest, degree, prime)


def split_all(part, degree, prime):
    """All atoms of a product of unlike atoms of one degree.

    Powers of x are tried one by one; those by a multiple of the prime have the traces of lesser ones.
    Together they tell each two atoms apart, as sums of them are all there is modulo part.
    """
    parts = [part]
    if len(part) - 1 == degree:
        return parts
    rows = frobenius(part, prime)
    at = 0
    while len(parts) * degree < len(part) - 1:
        at += 1
        if at % prime:
            trace = trace_of(rest_of([0] * at + [1], part, prime), rows, degree, prime)
            finer = []
            for piece in parts:
                finer.extend(split_by(piece, trace, degree, prime))
            parts = finer
    return parts


def residue_atoms(weights, prime):
    """The pairs (atom, how often it is there) of a list that is not [] modulo the prime."""
    out = []
    left = ended_by_one(weights, prime)
    lots = by_degree(left, prime)
    for degree, part in lots:
        # What comes again at a later place is counted, and taken out, where it comes first.
        if rest_of(left, part, prime):
            continue
        for atom in split_all(part, degree, prime):
            left, often = taken_out(left, atom, prime)
            out.append((atom, often))
    return out


def taken_out(weights, atom, prime):
    """(REST, OFTEN): what is left without the atom, and how often it was there."""
    often = 0
    left = weights
    share, rest = parted_by(left, atom, prime)
    while not rest:
        often += 1
        left = share
        share, rest = parted_by(left, atom, prime)
    return left, often
