"""A judge of the tests' own: which values are claims, which are papers for them, by the words of [H1] and [H2]."""

from fractions import Fraction
from math import gcd

from bookmodel import gaps, root
from samegaps.factors import is_atom
from samegaps.primes import degrees
from samples import all_times, along_points, apart_round, are_ruler, back, back_points, by_number, plus, small_primes, times
from samples import times_points

OPPOSITES = {"same": "unlike", "divides": "divides not", "common": "not common", "whole": "parted", "only": "not only",
             "somebody": "nobody", "all heaps": "other heaps", "ruler": "no ruler", "shortest": "not shortest",
             "same round": "unlike round", "alike round": "not alike round", "same points": "unlike points"}
BACK = {other: word for word, other in OPPOSITES.items()}
PRIMES = small_primes(997)
LEAST = {1: 0, 2: 1, 3: 3, 4: 6, 5: 11, 6: 17}


def opposite_of(claim):
    """The claim with the other word."""
    return ({**OPPOSITES, **BACK}[claim[0]], *claim[1:])


def whole(value):
    """Whether the value is a whole number."""
    return type(value) is int


def tuple_of(value, many):
    """Whether the value is a tuple of so many elements."""
    return type(value) is tuple and len(value) == many


def ascending(values):
    """Whether each one is above the one ahead."""
    return all(one < other for one, other in zip(values, values[1:]))


def rowlike(value, point=whole):
    """Whether the value is a ROW, or a POINT ROW."""
    if type(value) is not tuple or len(value) > 400:
        return False
    if not all(tuple_of(pair, 2) and point(pair[0]) and whole(pair[1]) and pair[1] != 0 for pair in value):
        return False
    return ascending([pair[0] for pair in value])


def pointlike(value):
    """Whether the value is a POINT."""
    return type(value) is tuple and len(value) in (2, 3) and all(whole(letter) for letter in value)


def points_row(value):
    """Whether the value is a POINT ROW."""
    return rowlike(value, pointlike) and len({len(point) for point, _ in value}) < 2


def wide(row):
    """The spread."""
    return row[-1][0] - row[0][0] if row else 0


def narrow(rows):
    """Whether no spread is above 60 times the step of all rows at once."""
    step = gcd(*[0], *[place - row[0][0] for row in rows for place, _ in row])
    return all(wide(row) <= 60 * step for row in rows)


def corelike(value):
    """Whether the value is a bare, rooted, positive ROW of a spread above 0."""
    return rowlike(value) and len(value) > 1 and root(value) == value and gcd(*[w for _, w in value]) == 1


def heaplike(value):
    """Whether the value is a rooted HEAP of a count from 1 to 9."""
    return rowlike(value) and value != () and value[0][0] == 0 and all(w > 0 for _, w in value) and \
        sum(w for _, w in value) <= 9


def markslike(value):
    """Whether the value are MARKS."""
    return type(value) is tuple and len(value) <= 60 and all(whole(mark) for mark in value) and ascending(value)


def lengthslike(value):
    """Whether the value are LENGTHS."""
    return type(value) is tuple and len(value) in (0, 1, 3, 6, 10, 15, 21, 28, 36) and all(
        whole(length) and length >= 0 for length in value) and list(value) == sorted(value)


def lotlike(n, value):
    """Whether the value is a lot of the ring."""
    return markslike(value) and all(0 <= place < n for place in value)


def spotslike(value):
    """Whether the value is a point heap other than (), of a spread that is let."""
    if not points_row(value) or value == () or any(weight < 0 for _, weight in value):
        return False
    letters = list(zip(*[point for point, _ in value]))
    return max(max(column) - min(column) for column in letters) <= {2: 12, 3: 4}[len(letters)]


def is_claim_by_words(value):
    """Whether the value is a claim."""
    if type(value) is not tuple or not value or type(value[0]) is not str or value[0] not in {**OPPOSITES, **BACK}:
        return False
    word, parts = BACK.get(value[0], value[0]), value[1:]
    many = {"whole": 1, "only": 1, "somebody": 1, "ruler": 1, "shortest": 1, "common": 3, "same round": 3,
            "alike round": 3}.get(word, 2)
    if len(parts) != many:
        return False
    if word in ("same", "divides", "common"):
        return all(rowlike(row) and row != () for row in parts) and narrow(parts) and (
            word != "common" or root(parts[2]) == parts[2])
    if word in ("only", "somebody", "whole"):
        return rowlike(parts[0]) and parts[0] != () and wide(parts[0]) <= 60 and (word != "whole" or corelike(parts[0]))
    if word == "all heaps":
        return lengthslike(parts[0]) and type(parts[1]) is tuple and len(parts[1]) <= 200 and all(
            heaplike(heap) for heap in parts[1]) and ascending(parts[1])
    if word in ("ruler", "shortest"):
        return markslike(parts[0]) and (word == "ruler" or 1 <= len(parts[0]) <= 6 and are_ruler(parts[0]))
    if word == "same points":
        return spotslike(parts[0]) and spotslike(parts[1]) and len(parts[0][0][0]) == len(parts[1][0][0])
    return whole(parts[0]) and 1 <= parts[0] <= 60 and lotlike(parts[0], parts[1]) and lotlike(parts[0], parts[2])


def over(row, by):
    """The quotient, from the first places on; None if there is none."""
    told, left = {}, dict(row)
    last = row[-1][0] - by[-1][0] if row else 0
    while left:
        place = min(left)
        share, rest = divmod(left[place], by[0][1])
        if rest or place - by[0][0] > last:
            return None
        told[place - by[0][0]] = share
        for at, weight in by:
            left[at + place - by[0][0]] = left.get(at + place - by[0][0], 0) - share * weight
        left = {at: weight for at, weight in left.items() if weight}
    return tuple(sorted(told.items()))


def greatest(row, other):
    """The root of the greatest common divisor, by fractions."""
    step = max(1, gcd(*[place - told[0][0] for told in (row, other) for place, _ in told]))
    lists = []
    for told in (row, other):
        weights = [Fraction(0)] * (wide(told) // step + 1)
        for place, weight in told:
            weights[(place - told[0][0]) // step] = Fraction(weight)
        lists.append(weights)
    high, low = lists
    while low:
        rest = list(high)
        while len(rest) >= len(low):
            share = rest[-1] / low[-1]
            for at in range(len(low)):
                rest[len(rest) - len(low) + at] -= share * low[at]
            rest.pop()
        while rest and rest[-1] == 0:
            rest.pop()
        high, low = low, rest
    under = 1
    for weight in high:
        under = under * weight.denominator // gcd(under, weight.denominator)
    weights = [int(weight * under) for weight in high]
    share = gcd(*weights)
    content = gcd(*[w for _, w in row], *[w for _, w in other])
    return root(tuple((at * step, w // share * content) for at, w in enumerate(weights) if w))


def atom_shown(core, paper):
    """Whether the value is a paper of [C4] for the core."""
    if paper == () and type(paper) is tuple:
        return is_atom(core)
    if not tuple_of(paper, 2) or type(paper[0]) is not str:
        return False
    if paper[0] == "step":
        p = paper[1]
        if not whole(p) or p not in PRIMES:
            return False
        ways = (core, core[::-1])
        return any(all(w % p == 0 for _, w in way[:-1]) and way[0][1] % (p * p) for way in ways)
    if paper[0] != "primes" or type(paper[1]) is not tuple or not 1 <= len(paper[1]) <= 8:
        return False
    if not all(whole(p) and p in PRIMES for p in paper[1]) or len(set(paper[1])) < len(paper[1]):
        return False
    shared = set(range(wide(core) + 1))
    for prime in paper[1]:
        found = degrees(core, prime)
        if found is not None:
            sums = {0}
            for degree in found:
                sums |= {total + degree for total in sums}
            shared &= sums
    return shared == {0, wide(core)}


def parting_shown(row, paper):
    """Whether the value is a parting of the row."""
    if type(paper) is not tuple or not all(tuple_of(part, 3) and corelike(part[0]) and wide(part[0]) <= 60 and
                                           whole(part[1]) and part[1] >= 1 for part in paper):
        return False
    if not ascending([part[0] for part in paper]) or sum(wide(atom) * many for atom, many, _ in paper) != wide(row):
        return False
    content = gcd(*[w for _, w in row])
    product = all_times([atom for atom, many, _ in paper for _ in range(many)])
    if by_number(product, content) != root(row):
        return False
    return all(atom_shown(atom, told) for atom, _, told in paper)


def half_shown(row, paper):
    """The row that [D2] tells by a parting."""
    content, side = gcd(*[w for _, w in row]), 0
    low, high = 0, content + 1
    while high - low > 1:
        side = (low + high) // 2
        low, high = (side, high) if side * side <= content else (low, side)
    many = {atom: often for atom, often, _ in paper}
    total = ((0, low),)
    for atom in many:
        far = root(back(atom))
        if far == atom:
            often = many[atom] // 2
        else:
            often = many[atom] if atom < far else 0
        for _ in range(often):
            total = times(total, atom)
    return total


def between(heap):
    """The lengths of a heap."""
    marks = [place for place, weight in heap for _ in range(weight)]
    return tuple(sorted(abs(a - b) for at, a in enumerate(marks) for b in marks[:at]))


def tree_ends(tree, marks, left):
    """The heaps at the ends of a tree, None where it is wrong."""
    if not left:
        return {tuple((p, marks.count(p)) for p in sorted(set(marks)))} if tuple_of(tree, 1) and \
            type(tree[0]) is str and tree[0] == "heap" else None
    high, low = max(left), marks[1] - max(left)
    places = [low] if low == high else [low, high]
    if not tuple_of(tree, len(places)):
        return None
    ends = set()
    for way, place in zip(tree, places):
        needed = [abs(place - mark) for mark in marks]
        lacks = [n for n in needed if needed.count(n) > left.count(n)]
        if lacks:
            if not tuple_of(way, 2) or type(way[0]) is not str or way[0] != "lacks" or not whole(way[1]) or \
                    way[1] not in lacks:
                return None
            continue
        rest = list(left)
        for length in needed:
            rest.remove(length)
        found = tree_ends(way, (*marks, place), rest)
        if found is None:
            return None
        ends |= found
    return ends


def turned(n, lot, turn, sign=1):
    """The lot turned, and mirrored if the sign is -1."""
    return tuple(sorted((sign * place + turn) % n for place in lot))


def points_gaps(points):
    """The differences of a point row."""
    return times_points(points, back_points(points))


def moved_to(points):
    """The point row from noughts on."""
    return along_points(points, tuple(-letter for letter in points[0][0])) if points else ()


def rows_shown(word, parts, paper):
    """Papers of the claims of rows."""
    if word == "same":
        return tuple_of(paper, 2) and all(rowlike(row) for row in paper) and times(*paper) == parts[0] and \
            root(times(paper[0], back(paper[1]))) == root(parts[1])
    if word == "unlike":
        return whole(paper) and dict(gaps(parts[0])).get(paper) != dict(gaps(parts[1])).get(paper)
    if word == "divides":
        return rowlike(paper) and times(parts[0], paper) == parts[1]
    if word == "divides not":
        return paper == () and over(parts[1], parts[0]) is None
    row, other, divisor = parts
    if word == "common":
        if not tuple_of(paper, 4) or not all(rowlike(part) for part in paper):
            return False
        v, w, x, y = paper
        return times(divisor, v) == row and times(divisor, w) == other and gcd(*[k for _, k in v + w]) == 1 and \
            len(plus(times(x, v), times(y, w))) == 1
    if paper == ():
        return over(row, divisor) is None or over(other, divisor) is None
    return rowlike(paper) and narrow((paper, *parts)) and over(row, paper) is not None and \
        over(other, paper) is not None and over(divisor, paper) is None


def factors_shown(word, row, paper):
    """Papers of the claims of factors."""
    if word == "whole":
        return atom_shown(row, paper)
    if word == "parted":
        return tuple_of(paper, 2) and corelike(paper[0]) and corelike(paper[1]) and times(*paper) == row
    if word == "not only":
        return rowlike(paper) and gaps(paper) == gaps(row) and root(paper) not in (root(row), root(back(row)))
    if word == "somebody":
        return rowlike(paper) and gaps(paper) == row
    if not parting_shown(row, paper):
        return False
    if word == "only":
        return sum(many for atom, many, _ in paper if root(back(atom)) != atom) <= 1
    return gaps(half_shown(row, paper)) != row


def marks_shown(word, parts, paper):
    """Papers of the claims of heaps and rulers."""
    if word == "all heaps":
        lengths, heaps = parts
        first = (0, lengths[-1]) if lengths else (0,)
        found = tree_ends(paper, first, list(lengths[:-1]))
        return found is not None and tuple(sorted(found)) == heaps
    if word == "other heaps":
        if paper == () and type(paper) is tuple:
            return any(between(heap) != parts[0] for heap in parts[1])
        return heaplike(paper) and between(paper) == parts[0] and paper not in parts[1]
    marks = parts[0]
    if word == "ruler":
        return paper == () and are_ruler(marks)
    if word == "no ruler":
        if not tuple_of(paper, 3) or not whole(paper[0]) or paper[1] == paper[2]:
            return False
        return all(tuple_of(pair, 2) and markslike(pair) and set(pair) <= set(marks) and pair[1] - pair[0] == paper[0]
                   for pair in paper[1:])
    if word == "shortest":
        return paper == () and marks[-1] - marks[0] == LEAST[len(marks)]
    return markslike(paper) and len(paper) == len(marks) and are_ruler(paper) and \
        paper[-1] - paper[0] < marks[-1] - marks[0]


def others_shown(word, parts, paper):
    """Papers of the claims of rings and points."""
    if word == "same points":
        points, spots = parts
        return tuple_of(paper, 2) and all(points_row(part) and part and len(part[0][0]) == len(points[0][0])
                                          for part in paper) and times_points(*paper) == points and \
            moved_to(times_points(paper[0], back_points(paper[1]))) == moved_to(spots)
    if word == "unlike points":
        return pointlike(paper) and dict(points_gaps(parts[0])).get(paper) != dict(points_gaps(parts[1])).get(paper)
    n, lot, mate = parts
    if word == "same round":
        return paper == () and apart_round(n, lot) == apart_round(n, mate)
    if word == "unlike round":
        return whole(paper) and 0 <= paper < n and apart_round(n, lot)[paper] != apart_round(n, mate)[paper]
    if word == "alike round":
        return tuple_of(paper, 2) and all(whole(k) for k in paper) and paper[0] in (0, 1) and 0 <= paper[1] < n and \
            turned(n, lot, paper[1], 1 - 2 * paper[0]) == mate
    return paper == () and all(turned(n, lot, turn, sign) != mate for turn in range(n) for sign in (1, -1))


def is_paper(claim, paper):
    """Whether the value is a paper for the claim; the value is made of tuples, whole numbers, True, False, None, texts."""
    word, parts = claim[0], claim[1:]
    if word in ("same", "unlike", "divides", "divides not", "common", "not common"):
        return rows_shown(word, parts, paper)
    if word in ("whole", "parted", "only", "not only", "somebody", "nobody"):
        return factors_shown(word, parts[0], paper)
    if word.endswith(("heaps", "ruler", "shortest")):
        return marks_shown(word, parts, paper)
    return others_shown(word, parts, paper)


def bends(value):
    """The value with one thing in it exchanged, left out, doubled, or of another kind."""
    if type(value) is int:
        yield from (value + 1, value - 1, -value, 2 * value, value + 10 ** 399, True, False, None, str(value), (value,))
    elif type(value) is str:
        yield from (value + " ", value.upper(), "", value.encode(), (value,), 0, None, "step", "primes", "heap")
    elif type(value) is tuple:
        yield from (list(value), None, (value,), (*value, ()), (*value, 0), ())
        for at, part in enumerate(value):
            yield value[:at] + value[at + 1:]
            yield value[:at] + (part,) + value[at:]
            if at:
                yield value[:at - 1] + (part, value[at - 1]) + value[at + 1:]
            for other in bends(part):
                yield value[:at] + (other,) + value[at + 1:]


def plain(value):
    """What tells two values apart that are equal, but of unlike kinds."""
    return repr(value)
