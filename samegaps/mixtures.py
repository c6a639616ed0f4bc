"""Going back: a number as multiples of two lists without a common divisor."""

from math import gcd

from samegaps.dense import bare_list, content_list, quotient_list, times_list
from samegaps.wholes import power


def minus_list(one, other):
    """One list less the other one, noughts at the end left out."""
    size = max(len(one), len(other))
    out = [0] * size
    for at, weight in enumerate(one):
        out[at] = weight
    for at, weight in enumerate(other):
        out[at] -= weight
    while out and out[-1] == 0:
        out.pop()
    return out


def rest_by(whole, part):
    """(SHARE, REST): the last weight of part, as often as places are to be taken off, times whole.

    This multiple of whole is share times part and the rest.
    """
    last = part[-1]
    rest = list(whole)
    size = len(whole) - len(part) + 1
    share = [0] * size
    for low in reversed(range(size)):
        top = rest.pop()
        share = [last * weight for weight in share]
        share[low] = top
        rest = [last * weight for weight in rest]
        for at, weight in enumerate(part[:-1], low):
            rest[at] -= top * weight
    while rest and rest[-1] == 0:
        rest.pop()
    return share, rest


def over_all(weights, number):
    """Each weight over a number that divides it."""
    if number.bit_length() < 4000 or not weights:
        return [weight // number for weight in weights]
    return over_great(weights, number)


def over_great(weights, number):
    """The same for a great number: Python multiplies such ones much faster than it divides them.

    So the answers are told by their rests by a power of 2 that is above twice their size.
    """
    twos = (number & -number).bit_length() - 1
    odd = number >> twos
    bits = max([weight.bit_length() for weight in weights]) - number.bit_length() + 3
    most = (1 << bits) - 1
    half = most >> 1
    back = inverse_by_twos(odd, bits)
    out = []
    for weight in weights:
        share = (((weight >> twos) & most) * back) & most
        out.append(share - most - 1 if share > half else share)
    return out


def inverse_by_twos(odd, bits):
    """The number which times the odd one leaves 1 by 2, bits times by itself."""
    known = 3
    back = odd & 7
    while known < bits:
        known = min(2 * known, bits)
        most = (1 << known) - 1
        back = (back * (2 - (odd & most) * back)) & most
    return back & ((1 << bits) - 1)


def walk_down(one, other):
    """(Y, N): some multiple of one, and Y times other, are together the number N, not 0.

    One is not shorter than other, and no list of two weights or more divides both. The rests are
    subresultants: so are what they and Y are divided by known ahead (Collins 1967, Brown 1971).
    """
    high, low = one, other
    for_high, for_low = [], [1]
    lead, scale = 1, 1
    while len(low) > 1:
        fall = len(high) - len(low)
        share, rest = rest_by(high, low)
        over = lead * power(scale, fall)
        often = power(low[-1], fall + 1)
        mixed = minus_list([often * weight for weight in for_high], times_list(share, for_low))
        high, low = low, over_all(rest, over)
        for_high, for_low = for_low, over_all(mixed, over)
        lead = high[-1]
        if fall > 0:
            scale = power(lead, fall) // power(scale, fall - 1)
    return for_low, low[0]


def mixed_lists(one, other):
    """(X, Y, N) with X times one and Y times other together the number N above 0.

    The lists, not [], have no common divisor but 1 and -1.
    """
    if len(one) < len(other):
        y, x, number = mixed_lists(other, one)
        return x, y, number
    long, short = bare_list(one), bare_list(other)
    y, number = walk_down(long, short)
    x = quotient_list(minus_list([number], times_list(y, short)), long)
    # Back from the bare lists, their signs let in, to those that were passed.
    first, second = one[-1] // long[-1], other[-1] // short[-1]
    x = [weight * second for weight in x]
    y = [weight * first for weight in y]
    number = number * first * second
    shared = gcd(gcd(content_list(x), content_list(y)), number)
    if number < 0:
        shared = -shared
    return over_all(x, shared), over_all(y, shared), number // shared
