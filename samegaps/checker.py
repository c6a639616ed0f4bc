"""The checker: whether a value is a paper for a claim, whoever wrote it."""

from math import gcd, isqrt

from samegaps.atoms import shows_atom
from samegaps.checks import makes_core, makes_row
from samegaps.claims import is_claim, is_rooted_short_heap
from samegaps.division import are_too_wide, quotient_of
from samegaps.pairs import content_of, gaps_in, mirror, product_of, root_of, sum_of
from samegaps.partings import is_parting
from samegaps.pointchecks import is_point, makes_points
from samegaps.pointpairs import letters_of, point_gaps, points_back, points_rooted, points_times
from samegaps.rings import gaps_round, is_place, least_of_class, mirrored_lot, turned_by
from samegaps.rulers import are_marks, pair_twice
from samegaps.shortest import least_length
from samegaps.toldback import half_of
from samegaps.trees import does_tell, is_tuple_of, lengths_of
from samegaps.wholes import is_whole


def is_nought(paper):
    """Whether a value, whatever it is, is ()."""
    return is_tuple_of(paper, 0)


def are_rows(paper, many):
    """Whether a value, whatever it is, is a tuple of so many ROWs."""
    return is_tuple_of(paper, many) and all([makes_row(part) for part in paper])


def are_unlike_at(place, one, other):
    """Whether two rows, or point rows, have unlike weights at the place."""
    return dict(one).get(place, 0) != dict(other).get(place, 0)


def does_divide(by, row):
    """Whether a row, not (), divides the other one."""
    return quotient_of(row, by) is not None


def shows_same(parts, paper):
    """(U, V), U V being the row, U and V mirrored alike with the other one."""
    row, other = parts
    if not are_rows(paper, 2):
        return False
    u, v = paper
    return product_of(u, v) == row and root_of(product_of(u, mirror(v))) == root_of(other)


def shows_unlike(parts, paper):
    """A whole number at which the differences are unlike."""
    row, other = parts
    return is_whole(paper) and are_unlike_at(paper, gaps_in(row), gaps_in(other))


def shows_divides(parts, paper):
    """The quotient."""
    by, row = parts
    return makes_row(paper) and product_of(by, paper) == row


def shows_divides_not(parts, paper):
    """(), if there is no quotient."""
    by, row = parts
    return is_nought(paper) and not does_divide(by, row)


def shows_common(parts, paper):
    """(V, W, X, Y), DIVISOR V and DIVISOR W being the rows, X V and Y W together one pair."""
    row, other, divisor = parts
    if not are_rows(paper, 4):
        return False
    v, w, x, y = paper
    if product_of(divisor, v) != row or product_of(divisor, w) != other:
        return False
    mixed = sum_of(product_of(x, v), product_of(y, w))
    return len(mixed) == 1 and gcd(content_of(v), content_of(w)) == 1


def shows_not_common(parts, paper):
    """A common divisor that does not divide DIVISOR, or () for one that is none."""
    row, other, divisor = parts
    if is_nought(paper):
        return not does_divide(divisor, row) or not does_divide(divisor, other)
    # By a lesser step the claim's rows may be too wide, too: then no short walk tells what divides them.
    if not makes_row(paper) or are_too_wide((paper, *parts)):
        return False
    return does_divide(paper, row) and does_divide(paper, other) and not does_divide(paper, divisor)


def shows_whole(parts, paper):
    """A paper that the core is an atom."""
    return shows_atom(parts[0], paper)


def shows_parted(parts, paper):
    """Two cores of which the core is the product."""
    if not is_tuple_of(paper, 2) or not makes_core(paper[0]) or not makes_core(paper[1]):
        return False
    return product_of(paper[0], paper[1]) == parts[0]


def shows_only(parts, paper):
    """A parting in which at most one atom, once, is not alike with it mirrored."""
    if not is_parting(paper, parts[0]):
        return False
    turning = [often for atom, often, _ in paper if root_of(mirror(atom)) != atom]
    return turning == [] or turning == [1]


def shows_not_only(parts, paper):
    """A row with the same differences, alike neither with the row nor with it mirrored."""
    row = parts[0]
    if not makes_row(paper) or gaps_in(paper) != gaps_in(row):
        return False
    return root_of(paper) != root_of(row) and root_of(paper) != root_of(mirror(row))


def shows_somebody(parts, paper):
    """A row with these differences."""
    return makes_row(paper) and gaps_in(paper) == parts[0]


def shows_nobody(parts, paper):
    """A parting that tells a row with other differences."""
    row = parts[0]
    if not is_parting(paper, row):
        return False
    half = half_of([(atom, often) for atom, often, _ in paper], isqrt(content_of(row)))
    return gaps_in(half) != row


def shows_all_heaps(parts, paper):
    """A tree of the lengths with just the heaps at its ends."""
    lengths, heaps = parts
    return does_tell(lengths, paper, heaps)


def shows_other_heaps(parts, paper):
    """A heap with the lengths that is not told, or () for one of other lengths that is."""
    lengths, heaps = parts
    if is_nought(paper):
        return any([lengths_of(heap) != lengths for heap in heaps])
    return is_rooted_short_heap(paper) and lengths_of(paper) == lengths and paper not in heaps


def shows_ruler(parts, paper):
    """(), if the marks are a ruler."""
    return is_nought(paper) and pair_twice(parts[0]) is None


def is_pair_with(value, marks, length):
    """Whether the value, whatever it is, is an ascending pair of the marks with this length."""
    if not is_tuple_of(value, 2) or not are_marks(value):
        return False
    return value[0] in marks and value[1] in marks and value[1] - value[0] == length


def shows_no_ruler(parts, paper):
    """(LENGTH, PAIR, MORE), two unlike pairs of marks with this length."""
    if not is_tuple_of(paper, 3) or not is_whole(paper[0]):
        return False
    length, pair, more = paper
    return is_pair_with(pair, parts[0], length) and is_pair_with(more, parts[0], length) and pair != more


def shows_shortest(parts, paper):
    """(), if the search finds no lesser spread."""
    ruler = parts[0]
    return is_nought(paper) and ruler[-1] - ruler[0] == least_length(len(ruler))


def shows_not_shortest(parts, paper):
    """A ruler of as many marks with a lesser spread."""
    ruler = parts[0]
    if not are_marks(paper) or len(paper) != len(ruler) or pair_twice(paper) is not None:
        return False
    return paper[-1] - paper[0] < ruler[-1] - ruler[0]


def shows_same_round(parts, paper):
    """(), if the differences round are the same."""
    n, lot, mate = parts
    return is_nought(paper) and gaps_round(n, lot) == gaps_round(n, mate)


def shows_unlike_round(parts, paper):
    """A number at which the differences round are unlike."""
    n, lot, mate = parts
    return is_place(paper, n) and gaps_round(n, lot)[paper] != gaps_round(n, mate)[paper]


def shows_alike_round(parts, paper):
    """(IS_MIRRORED, TURN) by which the lot is the other one."""
    n, lot, mate = parts
    if not is_tuple_of(paper, 2) or not is_place(paper[0], 2) or not is_place(paper[1], n):
        return False
    way = mirrored_lot(n, lot) if paper[0] == 1 else lot
    return turned_by(n, way, paper[1]) == mate


def shows_not_alike_round(parts, paper):
    """(), if the lots are of unlike classes."""
    n, lot, mate = parts
    return is_nought(paper) and least_of_class(n, lot) != least_of_class(n, mate)


def shows_same_points(parts, paper):
    """(U, V), U V being the points, a shifted one of U and V mirrored the other ones."""
    points, spots = parts
    if not is_tuple_of(paper, 2) or not all([makes_points(part) for part in paper]):
        return False
    if any([letters_of(part) != letters_of(points) for part in paper]):
        return False
    u, v = paper
    if points_times(u, v) != points:
        return False
    return points_rooted(points_times(u, points_back(v))) == points_rooted(spots)


def shows_unlike_points(parts, paper):
    """A POINT at which the differences are unlike."""
    points, spots = parts
    return is_point(paper) and are_unlike_at(paper, point_gaps(points), point_gaps(spots))


SHOWS = {
    "same": shows_same, "unlike": shows_unlike,
    "divides": shows_divides, "divides not": shows_divides_not,
    "common": shows_common, "not common": shows_not_common,
    "whole": shows_whole, "parted": shows_parted,
    "only": shows_only, "not only": shows_not_only,
    "somebody": shows_somebody, "nobody": shows_nobody,
    "all heaps": shows_all_heaps, "other heaps": shows_other_heaps,
    "ruler": shows_ruler, "no ruler": shows_no_ruler,
    "shortest": shows_shortest, "not shortest": shows_not_shortest,
    "same round": shows_same_round, "unlike round": shows_unlike_round,
    "alike round": shows_alike_round, "not alike round": shows_not_alike_round,
    "same points": shows_same_points, "unlike points": shows_unlike_points,
}


def accepts(claim, paper):
    """Whether the paper, whatever it is, is one for the claim, whatever that is."""
    if not is_claim(claim):
        return False
    shows = SHOWS[claim[0]]
    return shows(claim[1:], paper)
