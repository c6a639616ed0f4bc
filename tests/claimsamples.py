"""Claims of each kind, true ones and false ones, and papers that other writers may bring for them."""

from bookmodel import gaps, root
from claimjudge import between, greatest, over, turned
from samegaps.trees import heaps_of
from samples import CORNER, GREAT, HOOK, MIXED, RULER, all_times, along, along_points, are_ruler, back, back_points, by_number
from samples import dice, plus, points_from, prime_marks, some_row, square_roots, times, times_points

ONE, TWO = ((0, 2), (1, 7), (2, 3)), ((0, 6), (1, 5), (2, 1))
FLAT, CUBES = ((0, 1), (2, -1)), ((0, 2), (3, 2))
UP, DOWN, FOUR = ((0, 1), (1, 1)), ((0, -1), (1, 1)), ((0, 1), (4, 1))
LONG = ((0, 1), (1, 1), (3, 1), (4, 1), (5, 1), (7, 1), (9, 1), (10, 1), (12, 1))
FAR = ((0, 1), (1, 1), (3, 1), (5, 1), (6, 1), (8, 1), (9, 1), (10, 1), (12, 1))
TURNING = [((0, 1), (1, 2)), ((0, -2), (1, 3)), RULER, ((0, 1), (1, 10 ** 50)), ((0, 2), (1, 4), (3, 1))]
MIDDLE = [DOWN, UP, FOUR, ((0, 2), (1, -3), (2, 2)), ((0, 1), (1, 1), (2, 1))]
SIX = tuple((p, 1) for p in (0, 1, 2, 6, 8, 11)), tuple((p, 1) for p in (0, 1, 6, 7, 9, 11))


def small(rng, height=3):
    """A row of a few pairs."""
    return some_row(rng, rng.randint(1, 4), rng.randint(0, 5), height)


def stretched(rng, row):
    """The row with a step, a shift and a sign."""
    step, shift = rng.choice((1, 1, 2, 7, 10 ** 60)), rng.choice((0, 0, 3, -8, GREAT, -GREAT))
    return along(row, shift, step)


def row_pairs():
    """Pairs of rows, many of them with the same differences."""
    told = [(ONE, TWO), (ONE, ONE[:2]), (ONE, ONE), (LONG, FAR), (MIXED, back(MIXED)), (((5, -3),), ((-7, 3),)),
            (((5, -3),), ((-7, 4),)), (RULER, RULER[:2]), (UP, along(UP, 0, 1)), (FLAT, by_number(FLAT, -1)),
            (((0, 1), (60, 1)), ((0, 1), (60, 1))), (along(UP, 0, GREAT), along(((0, 1), (60, -2)), 1, GREAT)),
            (tuple((p, 1) for p in range(61)), tuple((p, p + 1) for p in range(61)))]
    rng = dice(181)
    for _ in range(40):
        u, v = small(rng), small(rng, rng.choice((3, 10 ** 30)))
        step = rng.choice((1, 1, 3, 10 ** 60))
        row = along(times(u, v), rng.randint(-9, 9), step)
        other = along(times(u, back(v)), rng.choice((0, 4, GREAT)), step)
        if rng.randint(0, 3) == 0:
            other = plus(other, ((other[0][0], 1),))
        told.append((row, by_number(other, rng.choice((1, -1)))))
    return [pair for pair in told if all(pair)]


def divided_rows():
    """Rows by which others are divided, or not."""
    told = [(UP, FLAT), (FLAT, CUBES), (ONE, ONE), (((3, -2),), ((7, 4),)), (((3, -2),), ((7, 5),)), (LONG, UP),
            (UP, ((0, 1), (60, -1))), (UP, ((0, 1), (60, 1))), (((0, 2),), ((0, 3),)), (DOWN, along(DOWN, 0, 60))]
    rng = dice(182)
    for _ in range(30):
        by, share = small(rng), small(rng, rng.choice((3, GREAT)))
        row = times(by, share)
        if rng.randint(0, 1):
            row = plus(row, ((rng.choice(row)[0], rng.choice((1, -1))),)) or UP
        step = rng.choice((1, 2, 10 ** 60))
        told.append((along(by, rng.randint(-3, GREAT), step), along(row, rng.randint(-3, 3), step)))
    return told


def common_rows():
    """Two rows and what may be the root of their common divisor."""
    told = [(FLAT, CUBES, UP), (FLAT, CUBES, ((0, 1),)), (ONE, TWO, ((0, 2), (1, 1))), (ONE, TWO, ((0, 3), (1, 1))),
            (((0, 4),), ((9, -6),), ((0, 2),)), (((0, 4),), ((9, -6),), ((0, 1),)), (UP, UP, UP), (UP, UP, ((0, 1),)),
            (((0, 1), (60, -1)), ((0, 1), (40, -1)), ((0, -1), (20, 1))),
            (along(FLAT, 2, 10 ** 90), along(CUBES, -4, 10 ** 90), along(UP, 0, 10 ** 90))]
    rng = dice(183)
    for _ in range(36):
        shared = small(rng)
        row, other = times(shared, small(rng, rng.choice((3, 10 ** 20)))), times(shared, small(rng))
        divisor = greatest(row, other)
        bent = rng.randint(0, 4)
        if bent == 0:
            divisor = root(times(divisor, rng.choice((UP, ((0, 2),), DOWN))))
        elif bent == 1 and over(divisor, UP):
            divisor = root(over(divisor, UP))
        elif bent == 2:
            divisor = root(shared)
        step = rng.choice((1, 5))
        told.append((along(row, rng.randint(-5, 5), step), along(other, 3, step), along(divisor, 0, step)))
    return told


def cores():
    """Cores, atoms and others."""
    told = TURNING + MIDDLE + [times(one, other) for one in TURNING for other in TURNING + MIDDLE][::2]
    told += [((0, 1), (1, -10), (2, 1)), square_roots((2, 3)), ((0, 1), (60, 1)), ((0, 2), (1, 4), (60, 1)), ((0, 4), (4, 1)),
             ((0, -1), (60, 1)), ((0, 1), (59, 1), (60, 1)), ((0, 6), (1, GREAT), (2, 1)), times(RULER, RULER), ((0, 2), (2, -6),
             (3, 9)), ((0, 1), (1, 10 ** 50 + 1), (2, 10 ** 50)), ((0, 1), (1, 1), (4, 1)), ((0, -7), (1, 5))]
    return [(root(row),) for row in told]


def long_rows():
    """Rows with a spread up to 60."""
    told = [ONE, RULER, MIXED, UP, FOUR, ((5, -12),), ((-GREAT, GREAT),), LONG, FAR, times(ONE, ONE), ((0, 1), (60, 1)),
            all_times(TURNING), all_times(MIDDLE), times(RULER, back(RULER)), times(RULER, RULER), all_times([RULER] * 15),
            all_times([((0, 1), (1, 2))] * 3 + [((0, 2), (1, 1))] * 2), times(RULER, FOUR), times(times(ONE, UP), UP),
            tuple((p, 1) for p in range(61)), ((0, 2), (1, 4), (60, 1))]
    rng = dice(184)
    for _ in range(24):
        kinds = rng.sample(TURNING, rng.randint(0, 2)) + rng.sample(MIDDLE, rng.randint(0, 2))
        row = all_times([rng.choice((kind, back(kind))) for kind in kinds for _ in range(rng.randint(1, 2))])
        told.append(by_number(along(row, rng.choice((0, -7, GREAT))), rng.choice((1, -1, 6, GREAT))))
    return [(row,) for row in told]


def told_differences():
    """Rows that are the differences of somebody, or nobody's."""
    rows = [ONE, RULER, MIXED, UP, ((0, 3),), ((5, -GREAT),), times(RULER, ONE), times(UP, UP), ((0, 1), (30, -5))]
    told = [gaps(row) for row in rows]
    told += [along(gaps(ONE), 1), by_number(gaps(RULER), -1), by_number(gaps(RULER), 2), by_number(gaps(RULER), 4),
             plus(gaps(RULER), ((0, 1),)), ((-1, 6), (0, 12), (1, 6)), ((-1, 1), (0, 1), (1, 1)), ((0, -4),), ((0, 8),),
             ((3, 4),), RULER, ((-1, -1), (0, 2), (1, -1)), ((-1, 1), (0, -2), (1, 1)), ((-2, 1), (0, 2), (2, 1)),
             ((-1, 1), (0, 3), (1, 1)), times(RULER, times(RULER, RULER)), along(gaps(((0, 1), (1, 2))), -2)]
    rng = dice(185)
    for _ in range(20):
        row = times(rng.choice(TURNING), small(rng))
        d = gaps(row)
        told.append(d if rng.randint(0, 1) else plus(d, ((rng.randint(0, 2), 1),)) or d)
    return [(row,) for row in told if row[-1][0] - row[0][0] <= 60]


def lengths_and_heaps():
    """LENGTHS, and heaps that are all with them, or not."""
    rng = dice(186)
    heaps = [((0, 1),), ((0, 2),), RULER, along(back(RULER), 4), SIX[0], LONG, ((0, 3), (2, 1)), ((0, 1), (GREAT, 1)), ((0, 9),),
             tuple((p, 1) for p in range(9)), ((0, 1), (1, 2), (4, 2))]
    for _ in range(8):
        marks = [rng.randint(0, rng.choice((4, 9, GREAT))) for _ in range(rng.randint(2, 7))]
        heaps.append(tuple((p - min(marks), marks.count(p)) for p in sorted(set(marks))))
    told = [((), ()), ((1, 1, 3), ()), ((1, 1, 3), (RULER,)), ((5,), (((0, 2),),)), ((0,), (((0, 1),),))]
    for heap in heaps:
        lengths = between(heap)
        found = heaps_of(lengths)
        told.append((lengths, found))
        told.append((lengths, found[1:]))
        told.append((lengths, tuple(sorted({*found, RULER, ((0, 1), (2, 2))}))))
        told.append((lengths, tuple(sorted({*found[:-1], ((0, 1), (7, 1))}))))
    return told


def marks():
    """MARKS, rulers and others."""
    told = [(), (3,), (-GREAT, GREAT), (0, 1, 2), (0, 1, 4, 6), (0, 1, 3, 4), (-5, -1, 0, 4), prime_marks(59), tuple(range(60)),
            (0, 2, 4, 8), (0, GREAT, 2 * GREAT), prime_marks(13) + (400, 401)]
    rng = dice(187)
    told += [tuple(sorted(rng.sample(range(-20, 20), rng.randint(2, 6)))) for _ in range(12)]
    return [(told_marks,) for told_marks in told]


def rulers():
    """Rulers of 1 to 6 marks, shortest ones and others."""
    told = [(0,), (-GREAT,), (0, 1), (3, 4), (0, 2), (0, GREAT), (0, 1, 3), (5, 7, 8), (0, 2, 5), (0, 1, 4), (0, 1, 4, 6),
            (-6, -4, -1, 0), (0, 1, 5, 7), (0, 1, 4, 9, 11), (0, 1, 3, 7, 12), (0, 1, 4, 10, 12, 17), (0, 1, 4, 10, 12, 18),
            (0, 1, 3, 7, 12, 20), (0, 1, 4, 13, 15, 30)]
    return [(told_marks,) for told_marks in told if are_ruler(told_marks)]


def lots():
    """Two lots round a ring."""
    told = [(8, (0, 1, 3, 4), (2, 5, 6, 7)), (8, (0, 1, 3, 4), (0, 1, 5, 6)), (8, (0, 1, 3, 4), (0, 1, 2, 5)), (1, (), ()),
            (1, (0,), ()), (1, (0,), (0,)), (60, tuple(range(0, 60, 7)), tuple(range(1, 60, 7))), (60, (), (59,)),
            (60, tuple(range(60)), tuple(range(60))), (7, (0, 1, 3), (2, 4, 5)), (2, (0,), (1,))]
    rng = dice(188)
    for _ in range(30):
        n = rng.choice((5, 6, 8, 12, 30, 60))
        lot = tuple(sorted(rng.sample(range(n), rng.choice((n // 2, n // 3, 2)))))
        kind = rng.randint(0, 3)
        mate = turned(n, lot, rng.randint(0, n), rng.choice((1, -1)))
        if kind == 0:
            mate = tuple(place for place in range(n) if place not in lot)
        elif kind == 1:
            mate = tuple(sorted({*mate[1:], rng.randrange(n)}))
        told.append((n, lot, mate))
    return told


def spots():
    """Two point heaps."""
    cube = (((0, 0, 0), 1), ((0, 1, 0), 2), ((1, 0, 1), 1))
    wide = times_points(HOOK, CORNER)
    told = [(wide, times_points(HOOK, back_points(CORNER))), (wide, wide), (wide, HOOK), (CORNER, HOOK), (cube, back_points(cube)),
            (cube, CORNER[:0] + (((0, 0, 0), 4),)), ((((3, -7), 2),), (((0, GREAT), 2),)), ((((3, -7), 2),), (((0, 0), 3),)),
            ((((0, 0), 1), ((12, 0), 1)), (((5, 5), 1), ((5, 17), 1))), ((((0, 0, 0), 1), ((0, 4, 0), 1)), (((0, 0, 0), 1), ((0, 4,
             0), 1)))]
    rng = dice(189)
    for letters, spread in ((2, 4), (3, 2)):
        for _ in range(10):
            u, v = [points_from({tuple(rng.randint(0, spread) for _ in range(letters)): rng.randint(1, 2) for _ in range(3)})
                    for _ in range(2)]
            one, other = times_points(u, v), along_points(times_points(u, back_points(v)), (GREAT,) * letters)
            if rng.randint(0, 3) == 0:
                other = points_from({**dict(other), other[0][0]: other[0][1] + 1})
            told.append((one, other))
    return told


PARTS = {"same": row_pairs, "divides": divided_rows, "common": common_rows, "whole": cores, "only": long_rows,
         "somebody": told_differences, "all heaps": lengths_and_heaps, "ruler": marks, "shortest": rulers, "same round": lots,
         "alike round": lots, "same points": spots}


def claims_of(word):
    """Claims with the word, the first one of both."""
    return [(word, *parts) for parts in PARTS[word]()]


def other_papers(claim, paper):
    """Papers near a right one that others may write; some of them right, some wrong."""
    word = claim[0]
    if word == "same":
        u, v = paper
        return [(along(u, 3), along(v, -3)), (by_number(u, -1), by_number(v, -1)), (v, u), (along(u, 1), v), (u, back(v)),
                (by_number(u, -1), v), (claim[1], ((0, 1),)), (((0, 1),), claim[1]), (claim[1], ()), ((), ()), (u,), (u, v, v)]
    if word == "unlike":
        return list(range(-8, 9)) + [-paper, GREAT, claim[1][-1][0] - claim[1][0][0], ((paper, 1),)]
    if word in ("divides", "somebody", "not only", "not common"):
        if paper == ():
            return [((0, 1),), claim[-1], root(claim[1]), greatest(*claim[1:3])]
        return [along(paper, 1), along(back(paper), 5), by_number(paper, -1), by_number(paper, 2), back(paper), root(paper),
                claim[1], back(claim[1]), claim[-1], times(paper, UP), ((0, 1),), (), (paper,)]
    if word == "common":
        v, w, x, y = paper
        return [(v, w, plus(x, w), plus(y, by_number(v, -1))), (v, w, along(x, 4), along(y, 4)), (w, v, x, y), (v, w, y, x),
                (v, w, by_number(x, -7), by_number(y, -7)), (v, w, x, ()), (v, w, (), y), (v, w, (), ()), (v, w, v, w),
                (v, w, times(x, UP), times(y, UP)), (along(v, 1), w, x, y), (by_number(v, -1), w, by_number(x, -1), y),
                (v, w, x), (v, w, x, y, ())]
    if word == "whole":
        return [(), ("primes", (2,)), ("primes", (3, 5, 7)), ("primes", (2, 3, 5, 7, 11, 13, 17, 19)), ("step", 2), ("step", 3),
                ("primes", (2, 3, 5, 7, 11, 13, 17, 19, 23)), ("primes", ()), ("primes", (2, 2)), ("primes", (4,)), ("step", 4),
                ("primes", (1009,)), ("step", 1009), ("primes", 2), ("step", (2,)), ("step",), ("primes", [2]), ("other", 2)]
    if word == "parted":
        one, other = paper
        return [(other, one), (one, other, other), (one, by_number(other, -1)), (along(one, 1), along(other, -1)), (claim[1],
                ((0, 1),)), (((0, 1),), claim[1]), (by_number(one, -1), by_number(other, -1)), (one, one), (one,), ()]
    return other_papers_of_many_parts(claim, paper)


def other_papers_of_many_parts(claim, paper):
    """The same for partings, trees, marks, rings and points."""
    word = claim[0]
    if word in ("only", "nobody"):
        parts = [tuple((atom, many, ()) for atom, many, _ in paper), paper[::-1], paper[1:], paper + paper[-1:], ()]
        for at, (atom, many, told) in enumerate(paper):
            for part in ((atom, many + 1, told), (atom, many - 1, told), (root(back(atom)), many, told), (along(atom, 1), many,
                         told), (by_number(atom, 2), many, told), (by_number(atom, -1), many, told), (atom, many, ("step", 2)),
                         (atom, many, ("primes", (2, 3))), (times(atom, atom), many // 2, ()), (atom, GREAT, told)):
                parts.append(paper[:at] + (part,) + paper[at + 1:])
        if len(paper) > 1:
            joined = (root(times(paper[0][0], paper[1][0])), 1, ())
            parts.append(tuple(sorted((joined, *paper[2:]))))
        return parts
    if word == "other heaps":
        return [RULER, along(back(RULER), 4), ((0, 1),), (), ((0, 2),), *claim[2], along(paper, 1) if paper else (), paper[::-1]]
    if word == "no ruler":
        length, pair, more = paper
        return [(length, more, pair), (length, pair, pair), (length + 1, pair, more), (-length, pair, more),
                (-length, pair[::-1], more[::-1]), (length, pair[::-1], more), (length, pair, more[::-1]), (length, pair),
                (2 * length, (pair[0], more[1]), (pair[0], more[1])), (length, (pair[0] + 1, pair[1] + 1), more)]
    if word == "not shortest":
        return [tuple(mark + 5 for mark in paper), tuple(-mark for mark in paper[::-1]), (*paper[:-1], paper[-1] + 1), paper[1:],
                claim[1], (*paper, paper[-1] + 40), tuple(range(len(paper))), (0, 1, 4, 6), (0, 1, 3), ()]
    if word in ("unlike round", "alike round"):
        turns = [(is_mirrored, turn) for is_mirrored in (-1, 0, 1, 2) for turn in range(-2, claim[1] + 2)]
        return list(range(-2, claim[1] + 2)) + turns
    if word == "unlike points":
        return [tuple(-letter for letter in paper), (0,) * len(paper), paper[:2], (*paper[:2], 0), (0, 0), (0, 1), (1, 0, 1), (1, 1)]
    if word == "same points":
        u, v = paper
        nought = (0,) * len(u[0][0])
        shift = (1, *nought[1:])
        return [(along_points(u, shift), along_points(v, tuple(-a for a in shift))), (v, u), (by_number(u, -1), by_number(v, -1)),
                (claim[1], ((nought, 1),)), (((nought, 1),), claim[1]), (u, back_points(v)), ((), v), (u, ()), (u,),
                (tuple((point[:1] * 3 if len(point) == 2 else point[:2], weight) for point, weight in u), v)]
    return [(), ("heap",), 0, (0,), paper]
