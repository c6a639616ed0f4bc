"""Papers for atoms, mirrors of cores, ring atoms."""

from samegaps.checks import need_core, need_short
from samegaps.dense import quotient_list, row_from
from samegaps.errors import InvalidNumber
from samegaps.factors import atoms_in, is_one_atom, need_parts
from samegaps.pairs import mirror, root_of, spread_of
from samegaps.parting import sums_of
from samegaps.primes import degrees_by
from samegaps.residues import is_small_prime, prime_after
from samegaps.wholes import is_whole

MOST_PRIMES = 8
# A paper of primes is looked for up to here; of an atom that has none, () is told soon enough.
LAST_TRIED = 200
LAST_PRIME = 997
MOST_RING = 60


def shows_atom(core, value):
    """Whether the value, whatever it is, is a paper that the core is an atom."""
    need_core(core)
    need_short(core)
    if not isinstance(value, tuple) or len(value) not in (0, 2):
        return False
    if len(value) == 0:
        return is_one_atom(core)
    word, told = value
    if not isinstance(word, str):
        return False
    if word == "primes":
        return are_told_primes(told) and show_primes(core, told)
    return word == "step" and is_small_prime(told) and shows_step(core, told)


def are_told_primes(value):
    """Whether the value is a tuple of 1 to 8 unlike primes from 2 to 997."""
    if not isinstance(value, tuple) or len(value) < 1 or len(value) > MOST_PRIMES:
        return False
    return all([is_small_prime(prime) for prime in value]) and len(set(value)) == len(value)


def ends_of(core):
    """The sums that are 0 and the whole spread, each a bit of one number."""
    return 1 | (1 << spread_of(core))


def all_up_to(core):
    """All numbers from 0 to the spread, each a bit of one number."""
    return (2 << spread_of(core)) - 1


def sums_by(core, prime):
    """The sums of some of the degrees by the prime; all numbers if it divides an end."""
    found = degrees_by(core, prime)
    return all_up_to(core) if found is None else sums_of(found)


def show_primes(core, primes):
    """Whether the sums of the degrees by these primes have but 0 and the whole spread in common."""
    shared = all_up_to(core)
    for prime in primes:
        shared = shared & sums_by(core, prime)
    return shared == ends_of(core)


def shows_step(core, prime):
    """Whether the prime divides all weights but the last one, its square not the first one; or mirrored."""
    return steps_up(core, prime) or steps_up(mirror(core), prime)


def steps_up(row, prime):
    """The former of both."""
    if row[0][1] % (prime * prime) == 0:
        return False
    return all([weight % prime == 0 for _, weight in row[:-1]])


def atom_paper(core):
    """A paper that the core is an atom, None if it is none."""
    need_core(core)
    need_short(core)
    return paper_of_atom(core) if is_one_atom(core) else None


def paper_of_atom(atom):
    """A paper for what is known to be an atom."""
    paper = paper_of_step(atom)
    if paper is None:
        paper = paper_of_primes(atom)
    return () if paper is None else paper


def paper_of_step(core):
    """A paper of one prime that steps up, None if there is none."""
    prime = 2
    while prime <= LAST_PRIME:
        if shows_step(core, prime):
            return ("step", prime)
        prime = prime_after(prime)
    return None


def paper_of_primes(core):
    """A paper of primes, each of which leaves fewer sums than those ahead; None if none is found."""
    if spread_of(core) == 1:
        return ("primes", (2,))
    shared, kept, prime = all_up_to(core), [], 2
    while prime <= LAST_TRIED and len(kept) < MOST_PRIMES:
        left = shared & sums_by(core, prime)
        if left != shared:
            shared = left
            kept.append(prime)
        if shared == ends_of(core):
            return ("primes", tuple(kept))
        prime = prime_after(prime)
    return None


def mirror_of(core):
    """The bare row of the core mirrored."""
    need_core(core)
    return root_of(mirror(core))


def is_alike_both_ways(core):
    """Whether the core is its own mirror."""
    need_core(core)
    return root_of(mirror(core)) == core


def pairs_in(atoms):
    """The tuple of (ATOM, MIRROR, MANY, MORE) of atoms, each so often, that are not alike both ways."""
    many = dict(atoms)
    found = {}
    for atom in many:
        far = root_of(mirror(atom))
        if far != atom:
            found[min(atom, far)] = max(atom, far)
    told = [(one, found[one], many.get(one, 0), many.get(found[one], 0)) for one in sorted(found)]
    return tuple(told)


def middle_in(atoms):
    """The tuple of (ATOM, MANY) of atoms, each so often, that are alike both ways."""
    return tuple([(atom, often) for atom, often in atoms if root_of(mirror(atom)) == atom])


def pairs_of(row):
    """The tuple of (ATOM, MIRROR, MANY, MORE): the atoms that are not alike both ways, with their mirrors."""
    need_parts(row)
    return pairs_in(atoms_in(row))


def middle_of(row):
    """The tuple of (ATOM, MANY): the atoms that are alike both ways."""
    need_parts(row)
    return middle_in(atoms_in(row))


def ring_atom(number):
    """The ring atom of a number from 1 to 60."""
    if not is_whole(number) or number < 1 or number > MOST_RING:
        raise InvalidNumber(number)
    return row_from(ring_list(number), 1, 0)


def ring_list(number):
    """The ring atom as a list: -1 + x^number over the ring atoms of all lesser divisors."""
    left = [-1] + [0] * (number - 1) + [1]
    for divisor in range(1, number):
        if number % divisor == 0:
            left = quotient_list(left, ring_list(divisor))
    return left
