"""Sums and products of rows, with any number of pairs, that are known to be rows."""

from math import gcd


def row_of(weights):
    """The row with the weights of a dict of places, those that are 0 left out."""
    return tuple([(place, weight) for place, weight in sorted(weights.items()) if weight])


def sum_of(row, other):
    """The sum of both."""
    weights = dict(row)
    for place, weight in other:
        weights[place] = weights.get(place, 0) + weight
    return row_of(weights)


def product_of(row, other):
    """The product of both."""
    weights = {}
    for place, weight in row:
        for far, more in other:
            at = place + far
            weights[at] = weights.get(at, 0) + weight * more
    return row_of(weights)


def power_of(row, times):
    """The row, times times by itself, for times from 0 on."""
    total = ((0, 1),)
    for _ in range(times):
        total = product_of(total, row)
    return total


def multiple_of(row, number):
    """The row with all its weights times the number."""
    if number == 0:
        return ()
    return tuple([(place, weight * number) for place, weight in row])


def moved(row, shift):
    """The row with the shift added to all its places."""
    return tuple([(place + shift, weight) for place, weight in row])


def mirror(row):
    """The row with -p for each place p."""
    return tuple([(-place, weight) for place, weight in row[::-1]])


def gaps_in(row):
    """The differences of the row."""
    return product_of(row, mirror(row))


def rooted(row):
    """The shifted row that begins at 0."""
    return moved(row, -row[0][0]) if row else ()


def root_of(row):
    """The row that is alike with this one, begins at 0 and ends with a weight above 0."""
    if row and row[-1][1] < 0:
        return rooted(multiple_of(row, -1))
    return rooted(row)


def content_of(row):
    """The greatest common divisor of all weights, 0 for ()."""
    total = 0
    for _, weight in row:
        total = gcd(total, weight)
    return total


def over_number(row, number):
    """The row with its weights over a number that divides all of them."""
    return tuple([(place, weight // number) for place, weight in row])


def bare_of(row):
    """The root over the content, () for ()."""
    return over_number(root_of(row), content_of(row)) if row else ()


def spread_of(row):
    """The last place less the first one, 0 for ()."""
    return row[-1][0] - row[0][0] if row else 0


def step_of(rows):
    """The greatest common divisor of all differences of places within each of the rows."""
    total = 0
    for row in rows:
        for place, _ in row:
            total = gcd(total, place - row[0][0])
    return total
