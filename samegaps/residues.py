"""Lists of weights modulo a whole number: the lowest place first, the last weight not 0."""

from samegaps.dense import times_list
from samegaps.wholes import is_whole

MOST_PRIME = 997


def is_prime_number(number):
    """Whether a whole number from 2 on is a prime, by trying divisors."""
    at = 2
    while at * at <= number:
        if number % at == 0:
            return False
        at += 1
    return True


def is_small_prime(value):
    """Whether the value, whatever it is, is a prime from 2 to 997."""
    return is_whole(value) and 2 <= value <= MOST_PRIME and is_prime_number(value)


def prime_after(number):
    """The least prime above the number, a whole one from 1 on."""
    at = number + 1
    while not is_prime_number(at):
        at += 1
    return at


def inverse(number, modulus):
    """The number which times the one that is passed leaves 1; both have no common divisor."""
    high, low = modulus, number % modulus
    for_high, for_low = 0, 1
    while low > 1:
        share = high // low
        high, low = low, high - share * low
        for_high, for_low = for_low, for_high - share * for_low
    return for_low % modulus


def rests(weights, modulus):
    """The rests of the weights, noughts at the end left out."""
    out = [weight % modulus for weight in weights]
    while out and out[-1] == 0:
        out.pop()
    return out


def plus(one, other, modulus):
    """The sum of both."""
    short, long = (one, other) if len(one) < len(other) else (other, one)
    out = list(long)
    for at, weight in enumerate(short):
        out[at] += weight
    return rests(out, modulus)


def minus(one, other, modulus):
    """One list less the other one."""
    return plus(one, [-weight for weight in other], modulus)


def times(one, other, modulus):
    """The product of both."""
    return rests(times_list(one, other), modulus)


def parted_by(whole, part, modulus):
    """(SHARE, REST): whole is share times part and the rest; the last weight of part is 1."""
    rest = list(whole)
    low = len(rest) - len(part)
    share = [0] * (low + 1)
    head = part[:-1]
    while low >= 0:
        top = rest.pop() % modulus
        if top:
            share[low] = top
            for at, weight in enumerate(head, low):
                rest[at] -= top * weight
        low -= 1
    return share, rests(rest, modulus)


def rest_of(whole, part, modulus):
    """The rest of whole by part, of which the last weight is 1."""
    return parted_by(whole, part, modulus)[1]


def ended_by_one(weights, modulus):
    """The list times the number by which its last weight is 1."""
    back = inverse(weights[-1], modulus)
    return [weight * back % modulus for weight in weights]


def common_modulo(one, other, prime):
    """The greatest common divisor of both, its last weight 1; not both are []."""
    high, low = one, other
    while low:
        low = ended_by_one(low, prime)
        high, low = low, rest_of(high, low, prime)
    return ended_by_one(high, prime)


def cofactors_of_one(one, other, prime):
    """(S, T) with S one + T other = 1, for lists without a common divisor modulo the prime."""
    high, low = one, other
    for_high, for_low = [1], []
    while low:
        back = inverse(low[-1], prime)
        low = [weight * back % prime for weight in low]
        for_low = [weight * back % prime for weight in for_low]
        share, rest = parted_by(high, low, prime)
        high, low = low, rest
        for_high, for_low = for_low, minus(for_high, times(share, for_low, prime), prime)
    back = inverse(high[-1], prime)
    s = [weight * back % prime for weight in for_high]
    left = minus([1], times(s, one, prime), prime)
    lead = inverse(other[-1], prime)
    t = times(parted_by(left, ended_by_one(other, prime), prime)[0], [lead], prime)
    return s, t


def power_modulo(weights, often, part, modulus):
    """The rest by part of the list, often times by itself."""
    total = [1]
    base = rest_of(weights, part, modulus)
    left = often
    while left:
        if left % 2:
            total = rest_of(times(total, base, modulus), part, modulus)
        left = left // 2
        if left:
            base = rest_of(times(base, base, modulus), part, modulus)
    return total
