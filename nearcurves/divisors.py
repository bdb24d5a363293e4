"""Greatest common divisors of polynomials, told by rows of integers (see wholerows).

Divisions one behind the other lead to them, but over ratios their numbers grow and grow. So the divisor is sought
among residues first, where numbers do not grow, and taken if it is found to divide both.
"""

from math import gcd

from nearcurves.wholerows import divides, long_division, primitive_row, stripped, without_lead

# 2 to each of these powers, less 1, is a prime; each one is about twice as long as the one ahead of it, or more.
PRIME_BITS = (61, 521, 1279, 2281, 4423, 9689, 19937, 44497)


def common_row(one, other):
    """The primitive row of the greatest degree that divides both of two primitive rows."""
    for bits in PRIME_BITS:
        found = divisor_by_residues(one, other, (1 << bits) - 1)
        if found is not None:
            return found
    return divisor_by_divisions(one, other)


def divisor_by_divisions(one, other):
    """The same by divisions alone: right for all rows, but slow for long ones."""
    while other:
        rest = long_division(one, other)[1]
        one, other = other, (primitive_row(rest) if rest else [])
    return one


def divisor_by_residues(one, other, prime):
    """The same by residues of a prime; None if this prime does not lead to it."""
    lead = gcd(one[-1], other[-1])
    if lead % prime == 0:
        return None
    # The divisor's lead divides the gcd of both leads, so it keeps its degree among residues: what is found there
    # has no lower degree, and is the divisor if it divides both.
    row = residue_divisor(one, other, prime)
    if len(row) == 1:
        return [1]
    if 2 * lead >= prime:
        return None
    factor = lead * inverse(row[-1], prime)
    found = primitive_row([nearest_residue(factor * number, prime) for number in row])
    return found if divides(found, one) and divides(found, other) else None


def residue_divisor(one, other, prime):
    """The residues of a polynomial of the greatest degree that divides, for residues, both rows."""
    above, below = residues(one, prime), residues(other, prime)
    while below:
        while len(above) >= len(below):
            above = residues(without_lead(above, below, below[-1], above[-1]), prime)
        above, below = below, above
    return above


def residues(row, prime):
    """The stripped row of the residues of a row."""
    return stripped([number % prime for number in row])


def nearest_residue(number, prime):
    """The integer of the number's residue that is nearest to 0."""
    residue = number % prime
    return residue - prime if 2 * residue > prime else residue


def inverse(number, prime):
    """The residue that gives 1, times a number that the prime does not divide."""
    high, low = prime, number % prime
    # With each of both goes what it is a multiple of the number by, but for multiples of the prime.
    high_part, low_part = 0, 1
    while low > 1:
        many = high // low
        high, low = low, high - many * low
        high_part, low_part = low_part, high_part - many * low_part
    return low_part % prime
