"""Rows as lists of weights, one for each place from the first one on, the last one not 0."""

from math import gcd, isqrt


def weights_of(row, step):
    """The weights of a row at its first place and each step further; [] for ()."""
    if row == ():
        return []
    first = row[0][0]
    weights = [0] * ((row[-1][0] - first) // step + 1)
    for place, weight in row:
        weights[(place - first) // step] = weight
    return weights


def row_from(weights, step, first):
    """The row with these weights at the first place and each step further."""
    return tuple([(first + at * step, weight) for at, weight in enumerate(weights) if weight])


def times_list(one, other):
    """The product of two lists."""
    if not one or not other:
        return []
    out = [0] * (len(one) + len(other) - 1)
    for at, weight in enumerate(one):
        if weight:
            for far, more in enumerate(other, at):
                out[far] += weight * more
    return out


def quotient_list(whole, part):
    """The list which times part is whole, None if there is none; part is not []."""
    if len(whole) < len(part):
        return None if whole else []
    rest = list(whole)
    size = len(whole) - len(part) + 1
    out = [0] * size
    last = part[-1]
    for low in reversed(range(size)):
        share, more = divmod(rest[low + len(part) - 1], last)
        if more:
            return None
        if share:
            out[low] = share
            for at, weight in enumerate(part, low):
                rest[at] -= share * weight
    return None if any(rest) else out


def content_list(weights):
    """The greatest common divisor of the weights."""
    total = 0
    for weight in weights:
        total = gcd(total, weight)
    return total


def bare_list(weights):
    """The list over its content, with the sign by which its last weight is above 0."""
    total = content_list(weights)
    if weights[-1] < 0:
        total = -total
    return [weight // total for weight in weights]


def slope_list(weights):
    """Each weight times its place, one place further down; [] for one weight."""
    return [at * weight for at, weight in enumerate(weights)][1:]


def height_of(weights):
    """The greatest weight without its sign."""
    return max([abs(weight) for weight in weights])


def value_of(weights, point):
    """The value of the list at a whole number."""
    total = 0
    for weight in weights[::-1]:
        total = total * point + weight
    return total


def read_back(number, point):
    """The list with this value at the point of which no weight, without its sign, is above half the point."""
    out = []
    left = number
    while left:
        left, weight = divmod(left, point)
        if 2 * weight > point:
            weight -= point
            left += 1
        out.append(weight)
    return out


def common_list(one, other):
    """The greatest common divisor, bare, of two bare lists.

    It is read off the greatest common divisor of two values. A list that is read so and divides
    both is the greatest one: a further divisor has all its roots below half the point, so its value
    is above half the point, but would divide the content of what was read, which is not. For great
    points the values have, but for this divisor, only what divides one fixed number in common, so
    the search ends.
    """
    if len(one) == 1 or len(other) == 1:
        return [1]
    point = (2 * min(height_of(one), height_of(other)) + 2) * 2 ** 40 + 1
    while True:
        shared = bare_list(read_back(gcd(value_of(one, point), value_of(other, point)), point))
        if quotient_list(one, shared) is not None and quotient_list(other, shared) is not None:
            return shared
        point = point * isqrt(point)
