"""The zeros that are ratios of polynomials with integers as their numbers.

Times the number of the highest power, such a zero is an integer. So each one is sought among the residues of a small
prime, where it can be found by trying, then among those of greater and greater powers of this prime, until the
integer is known; if it is one.
"""

from nearcurves.divisors import inverse, nearest_residue
from nearcurves.ratios import lowest
from nearcurves.wholecorners import value_at
from nearcurves.wholerows import long_division, primitive_row

FIRST_PRIME = 211
# So many bits more than are needed: then a residue that stands for no zero seems to stand for one next to never.
SPARE_BITS = 64


def ratio_zeros(row):
    """The zeros that are ratios, ascending, of a primitive row that has no zero twice."""
    if len(row) < 2:
        return []
    if len(row) == 2:
        return [lowest(-row[0], row[1])]
    lead = row[-1]
    most = lead + max([abs(number) for number in row])
    prime, residues = fitting_prime(row)
    found = []
    for residue in residues:
        root, modulus = lifted(row, residue, prime, most << SPARE_BITS)
        number = nearest_residue(lead * root, modulus)
        if abs(number) <= most:
            top, bottom = lowest(number, lead)
            if value_at(row, top, bottom) == 0:
                found.append((number, (top, bottom)))
    return [ratio for _, ratio in sorted(found)]


def fitting_prime(row):
    """A prime for which the zeros among residues stay single and as many, and all these zeros."""
    slope = slope_of_row(row)
    prime = FIRST_PRIME
    while True:
        if is_prime(prime) and row[-1] % prime != 0:
            residues = zero_residues(row, prime)
            if all([value_among(slope, residue, prime) != 0 for residue in residues]):
                return prime, residues
        prime = prime + 2


def is_prime(number):
    """Whether an odd number is a prime."""
    divisor = 3
    while divisor * divisor <= number:
        if number % divisor == 0:
            return False
        divisor = divisor + 2
    return True


def slope_of_row(row):
    """The row of the slope."""
    return [power * row[power] for power in range(1, len(row))]


def value_among(row, point, modulus):
    """The residue of the value of a row at an integer."""
    value = 0
    for number in row[::-1]:
        value = (value * point + number) % modulus
    return value


def zero_residues(row, prime):
    """All residues at which a row has the residue 0."""
    short = [number % prime for number in row]
    return [residue for residue in range(prime) if value_among(short, residue, prime) == 0]


def lifted(row, residue, prime, limit):
    """The zero with a residue, among the residues of a power of the prime above 2 * limit, and this power."""
    slope = slope_of_row(row)
    root = residue
    modulus = prime
    factor = inverse(value_among(slope, root, prime), prime)
    while modulus <= 2 * limit:
        modulus = modulus * modulus
        root = (root - value_among(row, root, modulus) * factor) % modulus
        factor = factor * (2 - value_among(slope, root, modulus) * factor) % modulus
    return root, modulus


def without_zeros(row, ratios):
    """The primitive row of the quotient of a primitive row and all x - z, for some of its zeros z."""
    left = row
    for top, bottom in ratios:
        left = primitive_row(long_division(left, [-top, bottom])[0])
    return left
