"""What tests check answers by: sums and products of Python's own fractions, apart from the package's ways."""

from fractions import Fraction
from math import comb

from helping import fraction

from nearcurves.polys import Poly


def numbers_of(poly):
    return [fraction(number) for number in poly.numbers]


def worth(poly, point):
    """The value of a Poly at a Fraction."""
    total = Fraction(0)
    for number in reversed(numbers_of(poly)):
        total = total * point + number
    return total


def corners_by_sums(poly, low, high, degree):
    """The corners by the sum over j of C(k, j) / C(n, j) * the number of t ** j in p(low + (high - low) * t)."""
    low, high = fraction(low), fraction(high)
    moved = [Fraction(0)]
    for number in reversed(numbers_of(poly)):
        longer = [low * item for item in moved] + [Fraction(0)]
        for power, item in enumerate(moved):
            longer[power + 1] += (high - low) * item
        longer[0] += number
        moved = longer
    moved = (moved + [Fraction(0)] * (degree + 1))[: degree + 1]
    return [sum(Fraction(comb(k, j), comb(degree, j)) * moved[j] for j in range(k + 1)) for k in range(degree + 1)]


def is_told_ratio(value):
    """Whether a value is a pair in lowest terms."""
    if type(value) is not tuple or [type(item) for item in value] != [int, int]:
        return False
    return value[1] > 0 and fraction(value).denominator == value[1]


def split_holds(poly, low, high, split):
    """Whether a Split shows what it is to show, by products and corners."""
    if numbers_of(split.rest * split.root * split.root) != numbers_of(poly) or type(split.cuts) is not tuple:
        return False
    ends = [fraction(end) for end in (low, *split.cuts, high)]
    if ends != sorted(set(ends)):
        return False
    degree = max(0, split.rest.degree())
    for start, end in zip(ends, ends[1:]):
        if min(corners_by_sums(split.rest, (start.numerator, start.denominator), (end.numerator, end.denominator), degree)) < 0:
            return False
    return True


def below_holds(poly, low, high, below):
    """Whether a Below tells a point of the interval and the value there, below 0."""
    point = fraction(below.point)
    if not is_told_ratio(below.point) or not fraction(low) <= point <= fraction(high):
        return False
    return fraction(below.number) == worth(poly, point) < 0


def product_of(*polys):
    product = Poly((1,))
    for poly in polys:
        product = product * poly
    return product
