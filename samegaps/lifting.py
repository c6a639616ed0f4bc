"""Lifting: from the parts of a list modulo a prime to those modulo a power of it."""

from samegaps.residues import cofactors_of_one, ended_by_one, minus, parted_by, plus, times
from samegaps.wholes import power


def moduli_up_to(prime, often):
    """Powers of the prime up to the one told, each but the first at most the square of the one ahead."""
    steps = []
    left = often
    while left > 1:
        steps.append(power(prime, left))
        left = (left + 1) // 2
    return steps[::-1]


def lifted_pair(whole, one, other, prime, moduli):
    """Both parts of the whole modulo the last one of the moduli, told modulo the prime.

    All end by one. What the product of both lacks is shared out by S one + T other = 1, which is
    told for the next power, too (Hensel 1908, Zassenhaus 1969).
    """
    s, t = cofactors_of_one(one, other, prime)
    for modulus in moduli:
        lack = minus(whole, times(one, other, modulus), modulus)
        share, rest = parted_by(times(s, lack, modulus), other, modulus)
        more = plus(times(t, lack, modulus), times(share, one, modulus), modulus)
        one, other = plus(one, more, modulus), plus(other, rest, modulus)
        if modulus != moduli[-1]:
            over = minus(plus(times(s, one, modulus), times(t, other, modulus), modulus), [1], modulus)
            share, rest = parted_by(times(s, over, modulus), other, modulus)
            more = plus(times(t, over, modulus), times(share, one, modulus), modulus)
            s, t = minus(s, rest, modulus), minus(t, more, modulus)
    return one, other


def product_modulo(parts, modulus):
    """The product of all parts."""
    total = [1]
    for part in parts:
        total = times(total, part, modulus)
    return total


def lifted_parts(whole, parts, prime, moduli):
    """The parts of the whole, ended by one, modulo the last one of the moduli, in their order.

    The parts, told modulo the prime, are unlike and end by one; so does the whole.
    """
    if moduli == []:
        return parts
    if len(parts) == 1:
        return [whole]
    half = len(parts) // 2
    left, right = parts[:half], parts[half:]
    one, other = lifted_pair(whole, product_modulo(left, prime), product_modulo(right, prime), prime, moduli)
    return lifted_parts(one, left, prime, moduli) + lifted_parts(other, right, prime, moduli)


def lifted_from(weights, parts, prime, often):
    """The lifted ones of a list of weights, in the order of the parts."""
    moduli = moduli_up_to(prime, often)
    modulus = power(prime, often)
    return lifted_parts(ended_by_one(weights, modulus), parts, prime, moduli)
