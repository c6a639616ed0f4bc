"""Papers for claims: each claim, or its opposite, has one."""

from samegaps.atoms import atom_paper, pairs_in
from samegaps.claims import need_claim, opposite
from samegaps.division import common_of, quotient_of
from samegaps.divisors import mixing
from samegaps.factors import atoms_in
from samegaps.gaps import first_unlike
from samegaps.pairs import gaps_in, mirror, product_of, root_of
from samegaps.partings import parting_of
from samegaps.pointdivision import common_of_points, point_quotient
from samegaps.pointpairs import point_gaps
from samegaps.points import point_apart
from samegaps.rings import gaps_round, how_alike
from samegaps.rulers import pair_twice
from samegaps.shortest import least_length, rulers_between
from samegaps.toldback import one_with, shares_of
from samegaps.trees import all_ends, tree_of


def nought_if(is_so):
    """() for a claim that is so, None for one that is not."""
    return () if is_so else None


def same_paper(parts):
    """(U, V), U the greatest common divisor ([B3])."""
    row, other = parts
    if gaps_in(row) != gaps_in(other):
        return None
    shared = common_of(row, other)
    return (shared, quotient_of(row, shared))


def unlike_paper(parts):
    """The least place from 0 on at which the differences are unlike."""
    return first_unlike(parts[0], parts[1])


def divides_paper(parts):
    """The quotient, if there is one."""
    by, row = parts
    return quotient_of(row, by)


def divides_not_paper(parts):
    """(), if there is no quotient."""
    by, row = parts
    return nought_if(quotient_of(row, by) is None)


def common_paper(parts):
    """(V, W, X, Y) ([A4])."""
    row, other, divisor = parts
    if common_of(row, other) != divisor:
        return None
    x, y, _ = mixing(row, other)
    return (quotient_of(row, divisor), quotient_of(other, divisor), x, y)


def not_common_paper(parts):
    """The greatest common divisor, or () if DIVISOR is none."""
    row, other, divisor = parts
    shared = common_of(row, other)
    if shared == divisor:
        return None
    return () if quotient_of(shared, divisor) is None else shared


def whole_paper(parts):
    """A paper that the core is an atom."""
    return atom_paper(parts[0])


def parted_paper(parts):
    """An atom and the quotient by it."""
    core = parts[0]
    atoms = atoms_in(core)
    if atoms == ((core, 1),):
        return None
    atom = atoms[0][0]
    return (atom, quotient_of(core, atom))


def only_paper(parts):
    """A parting with at most one atom, once, that is not alike with it mirrored ([D1])."""
    atoms = atoms_in(parts[0])
    turning = [many + more for _, _, many, more in pairs_in(atoms)]
    return parting_of(atoms) if turning == [] or turning == [1] else None


def not_only_paper(parts):
    """A row that turns factors of one kind alone; if there is any other row, one of these is ([D1])."""
    row = parts[0]
    known = (root_of(row), root_of(mirror(row)))
    for one, other, many, more in pairs_in(atoms_in(row)):
        shares = shares_of(one, other, many + more)
        rest = quotient_of(row, shares[many])
        for share in shares:
            told = product_of(rest, share)
            if root_of(told) not in known:
                return told
    return None


def somebody_paper(parts):
    """A row with these differences."""
    return one_with(parts[0])


def nobody_paper(parts):
    """A parting, which tells a row with other differences ([D2])."""
    row = parts[0]
    return parting_of(atoms_in(row)) if one_with(row) is None else None


def all_heaps_paper(parts):
    """The tree of the lengths ([D5])."""
    lengths, heaps = parts
    return tree_of(lengths) if all_ends(lengths) == heaps else None


def other_heaps_paper(parts):
    """() for a heap that is told and has other lengths, else a heap that is not told."""
    lengths, heaps = parts
    found = all_ends(lengths)
    if any([heap not in found for heap in heaps]):
        return ()
    more = [heap for heap in found if heap not in heaps]
    return more[0] if more else None


def ruler_paper(parts):
    """(), if the marks are a ruler."""
    return nought_if(pair_twice(parts[0]) is None)


def no_ruler_paper(parts):
    """(LENGTH, PAIR, MORE), two unlike pairs of marks with this length."""
    return pair_twice(parts[0])


def is_shortest(ruler):
    """Whether no ruler of as many marks has a lesser spread."""
    return ruler[-1] - ruler[0] == least_length(len(ruler))


def shortest_paper(parts):
    """(), if the ruler is a shortest one."""
    return nought_if(is_shortest(parts[0]))


def not_shortest_paper(parts):
    """A shortest ruler."""
    many = len(parts[0])
    return None if is_shortest(parts[0]) else rulers_between(many, least_length(many))[0]


def same_round_paper(parts):
    """(), if the differences round are the same."""
    n, lot, mate = parts
    return nought_if(gaps_round(n, lot) == gaps_round(n, mate))


def unlike_round_paper(parts):
    """The least number at which the differences round are unlike."""
    n, lot, mate = parts
    one, other = gaps_round(n, lot), gaps_round(n, mate)
    return min([place for place in range(n) if one[place] != other[place]], default=None)


def alike_round_paper(parts):
    """The least (IS_MIRRORED, TURN)."""
    n, lot, mate = parts
    return how_alike(n, lot, mate)


def not_alike_round_paper(parts):
    """(), if no way leads from one lot to the other."""
    n, lot, mate = parts
    return nought_if(how_alike(n, lot, mate) is None)


def same_points_paper(parts):
    """(U, V), U the greatest common divisor ([E3])."""
    points, spots = parts
    if point_gaps(points) != point_gaps(spots):
        return None
    shared = common_of_points(points, spots)
    return (shared, point_quotient(points, shared))


def unlike_points_paper(parts):
    """The least POINT from noughts on at which the differences are unlike."""
    return point_apart(parts[0], parts[1])


PAPERS = {
    "same": same_paper, "unlike": unlike_paper,
    "divides": divides_paper, "divides not": divides_not_paper,
    "common": common_paper, "not common": not_common_paper,
    "whole": whole_paper, "parted": parted_paper,
    "only": only_paper, "not only": not_only_paper,
    "somebody": somebody_paper, "nobody": nobody_paper,
    "all heaps": all_heaps_paper, "other heaps": other_heaps_paper,
    "ruler": ruler_paper, "no ruler": no_ruler_paper,
    "shortest": shortest_paper, "not shortest": not_shortest_paper,
    "same round": same_round_paper, "unlike round": unlike_round_paper,
    "alike round": alike_round_paper, "not alike round": not_alike_round_paper,
    "same points": same_points_paper, "unlike points": unlike_points_paper,
}


def paper_for(claim):
    """A paper for the claim, None if it is not true."""
    need_claim(claim)
    write = PAPERS[claim[0]]
    return write(claim[1:])


def settled(claim):
    """The claim, or its opposite, whichever is true, and a paper for it."""
    paper = paper_for(claim)
    if paper is not None:
        return (claim, paper)
    true = opposite(claim)
    return (true, paper_for(true))
