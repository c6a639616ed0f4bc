"""Parting into atoms over the whole numbers: layers, residue atoms of a prime that serves, tries."""

from itertools import combinations
from math import isqrt

from samegaps.dense import bare_list, common_list, quotient_list, slope_list
from samegaps.lifting import lifted_from
from samegaps.resatoms import degrees_of, leaves_no_twice, residue_atoms
from samegaps.residues import prime_after, rests, times

PRIMES_TRIED = 8
FEW = 3


def layers_of(core):
    """The pairs (k, list) of a bare list that ends above 0: the atoms that are in it just k times."""
    out = []
    common = common_list(core, bare_list(slope_list(core))) if len(core) > 1 else core
    once = quotient_list(core, common)
    often = 1
    while len(once) > 1:
        again = common_list(once, common)
        just = quotient_list(once, again)
        if len(just) > 1:
            out.append((often, just))
        once = again
        common = quotient_list(common, again)
        often += 1
    return out


def does_serve(core, prime):
    """Whether the prime divides neither end and leaves no residue atom twice."""
    if core[0] % prime == 0 or core[-1] % prime == 0:
        return False
    return leaves_no_twice(rests(core, prime), prime)


def sums_of(degrees):
    """The sums of some of the degrees, each a bit of one number."""
    sums = 1
    for degree in degrees:
        sums = sums | (sums << degree)
    return sums


def best_prime(core):
    """(PRIME, SUMS): one that serves with few residue atoms, and the spreads that divisors may have.

    If only 0 and the whole spread are left, no more primes are asked.
    """
    ends = 1 | (1 << (len(core) - 1))
    sums = (1 << len(core)) - 1
    prime, best, fewest, tried = 1, 0, len(core), 0
    while tried == 0 or (tried < PRIMES_TRIED and sums != ends and fewest > FEW):
        prime = prime_after(prime)
        if does_serve(core, prime):
            tried += 1
            degrees = degrees_of(rests(core, prime), prime)
            sums = sums & sums_of(degrees)
            if tried == 1 or len(degrees) < fewest:
                best, fewest = prime, len(degrees)
    return best, sums


def root_of_squares(core):
    """A whole number from the root of the sum of all squared weights on."""
    return isqrt(sum([weight * weight for weight in core])) + 1


def atoms_of(core):
    """The atoms of a bare list that ends above 0 and has none twice."""
    if len(core) == 2:
        return [core]
    prime, sums = best_prime(core)
    if sums == 1 | (1 << (len(core) - 1)):
        return [core]
    size = root_of_squares(core)
    modulus, often = prime, 1
    while modulus <= (2 << len(core)) * size:
        modulus, often = modulus * prime, often + 1
    parts = [atom for atom, _ in residue_atoms(rests(core, prime), prime)]
    return put_in_lots(core, lifted_from(core, parts, prime, often), modulus, size, sums)


def put_in_lots(core, parts, modulus, size, sums):
    """The atoms of the core, each a product of some of the parts: few of them are tried ahead of more."""
    out = []
    left, rest, many = parts, core, 1
    while 2 * many <= len(left):
        lot, atom = lot_of(rest, left, many - 1, modulus, size, sums)
        if lot is None:
            many += 1
        else:
            out.append(atom)
            rest = quotient_list(rest, atom)
            left = [part for at, part in enumerate(left) if at not in lot]
    out.append(rest)
    return out


def lot_of(core, parts, fewer, modulus, size, sums):
    """(LOT, ATOM): fewer parts and one more of which the product tells a divisor; None, None.

    The last weight but one of a divisor, times what is told in [C5], is small: so the sum of those
    of the parts, times the last weight of the core, lies near 0 but for multiples of the modulus.
    """
    reach = len(core) * size
    seconds = [part[-2] * core[-1] % modulus for part in parts]
    for head in combinations(range(len(parts)), fewer):
        first = head[-1] + 1 if head else 0
        base = sum([seconds[at] for at in head]) + reach
        for last in range(first, len(parts)):
            if (base + seconds[last]) % modulus <= 2 * reach:
                lot = (*head, last)
                atom = divisor_from(core, [parts[at] for at in lot], modulus, sums)
                if atom is not None:
                    return lot, atom
    return None, None


def divisor_from(core, parts, modulus, sums):
    """The divisor of the core that the product of the parts tells, None if it tells none."""
    spread = sum([len(part) - 1 for part in parts])
    if not (sums >> spread) & 1 or not may_begin(core, parts, modulus):
        return None
    total = [core[-1]]
    for part in parts:
        total = times(total, part, modulus)
    divisor = bare_list([near_nought(weight, modulus) for weight in total])
    return divisor if quotient_list(core, divisor) is not None else None


def near_nought(number, modulus):
    """The number, from 0 on and below the modulus, or less the modulus, whichever is smaller."""
    return number - modulus if 2 * number > modulus else number


def may_begin(core, parts, modulus):
    """Whether the first weight that the product of the parts tells lets it be a divisor."""
    first = core[-1]
    for part in parts:
        first = first * part[0] % modulus
    first = near_nought(first, modulus)
    return first != 0 and core[0] * core[-1] % first == 0


def all_atoms(core):
    """The pairs (atom, how often it is there) of a bare list that ends above 0."""
    out = []
    for often, layer in layers_of(core):
        for atom in atoms_of(layer):
            out.append((atom, often))
    return out
