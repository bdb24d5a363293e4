"""What tests check answers by: sums and products of Python's own fractions, apart from the package's ways."""

from fractions import Fraction
from math import comb

from helping import fraction, pair

from nearcurves.errors_of import Paper
from nearcurves.functions import Mixed, Pieces, Quotient
from nearcurves.polys import Poly
from nearcurves.rows import terms_of


def numbers_of(poly):
    return [fraction(number) for number in poly.numbers]


def worth(poly, point):
    """The value of a Poly at a Fraction."""
    total = Fraction(0)
    for number in reversed(numbers_of(poly)):
        total = total * point + number
    return total


def corners_by_sums(poly, low, high, degree):
    """The corners by the sum over j of C(k, j) / C(n, j) * the number of t ** j in p(low + (high - low) * t)."""
    low, high = fraction(low), fraction(high)
    moved = [Fraction(0)]
    for number in reversed(numbers_of(poly)):
        longer = [low * item for item in moved] + [Fraction(0)]
        for power, item in enumerate(moved):
            longer[power + 1] += (high - low) * item
        longer[0] += number
        moved = longer
    moved = (moved + [Fraction(0)] * (degree + 1))[: degree + 1]
    return [sum(Fraction(comb(k, j), comb(degree, j)) * moved[j] for j in range(k + 1)) for k in range(degree + 1)]


def is_told_ratio(value):
    """Whether a value is a pair in lowest terms."""
    if type(value) is not tuple or [type(item) for item in value] != [int, int]:
        return False
    return value[1] > 0 and fraction(value).denominator == value[1]


def split_holds(poly, low, high, split):
    """Whether a Split shows what it is to show, by products and corners."""
    if numbers_of(split.rest * split.root * split.root) != numbers_of(poly) or type(split.cuts) is not tuple:
        return False
    ends = [fraction(end) for end in (low, *split.cuts, high)]
    if ends != sorted(set(ends)):
        return False
    degree = max(0, split.rest.degree())
    for start, end in zip(ends, ends[1:]):
        if min(corners_by_sums(split.rest, (start.numerator, start.denominator), (end.numerator, end.denominator), degree)) < 0:
            return False
    return True


def below_holds(poly, low, high, below):
    """Whether a Below tells a point of the interval and the value there, below 0."""
    point = fraction(below.point)
    if not is_told_ratio(below.point) or not fraction(low) <= point <= fraction(high):
        return False
    return fraction(below.number) == worth(poly, point) < 0


def product_of(*polys):
    product = Poly((1,))
    for poly in polys:
        product = product * poly
    return product


def row_numbers(row, many):
    """The first numbers of a Row by the products of the document."""
    found = [fraction(row.start)]
    for k in range(many - 1):
        found.append(found[-1] * worth(row.top, Fraction(k)) / worth(row.bottom, Fraction(k)))
    return found[:many]


def is_endless(function):
    return isinstance(function, Mixed) and any(terms_of(row) is None for _, row in function.parts)


def sums_by_terms(function, terms):
    """The Poly of the first terms of a Mixed function, by sums; rows that end whole."""
    total = function.poly
    for factor, row in function.parts:
        many = terms if terms_of(row) is None else terms_of(row)
        for k, number in enumerate(row_numbers(row, many)):
            total = total + factor * Poly([0] * (row.step * k + row.shift) + [pair(number)])
    return total


def tail_by_sum(function, low, high, terms):
    """The tail by the sum of the document; narrow or not."""
    if not isinstance(function, Mixed):
        return Fraction(0)
    size = max(abs(fraction(low)), abs(fraction(high)))
    total = Fraction(0)
    for factor, row in function.parts:
        if terms_of(row) is None:
            number = abs(row_numbers(row, terms + 1)[terms]) * size ** (row.step * terms + row.shift)
            total += 2 * number * sum(abs(fraction(item)) * size ** j for j, item in enumerate(factor.numbers))
    return total


def parts_of(function, low, high, terms):
    """Rows (top, bottom, low, high), the bottom above 0, for a function on an interval."""
    if isinstance(function, Pieces):
        found = []
        for start, end, poly in zip(function.knots, function.knots[1:], function.polys):
            left, right = max(fraction(low), fraction(start)), min(fraction(high), fraction(end))
            if left < right:
                found.append((poly, Poly((1,)), pair(left), pair(right)))
        return found
    if isinstance(function, Quotient):
        sign = 1 if worth(function.bottom, fraction(low)) > 0 else -1
        return [(function.top * sign, function.bottom * sign, low, high)]
    return [(sums_by_terms(function, terms) if isinstance(function, Mixed) else function, Poly((1,)), low, high)]


def papers_and_terms(paper, function):
    papers = paper if isinstance(function, Pieces) else (paper,)
    if type(papers) is not tuple or not all(isinstance(item, Paper) for item in papers):
        return None, None
    terms = papers[0].terms
    if any(item.terms != (terms if isinstance(function, Mixed) else 0) for item in papers):
        return None, None
    return papers, terms


def paper_holds(paper, poly, function, low, high, e):
    """Whether a paper shows that the error is at most e, by products and corners."""
    papers, terms = papers_and_terms(paper, function)
    parts = parts_of(function, low, high, terms) if papers is not None else []
    if papers is None or len(papers) != len(parts):
        return False
    room = fraction(e) - tail_by_sum(function, low, high, terms)
    for item, (top, bottom, left, right) in zip(papers, parts):
        difference = poly * bottom - top
        above, under = bottom * pair(room) - difference, bottom * pair(room) + difference
        if not split_holds(above, left, right, item.above) or not split_holds(under, left, right, item.under):
            return False
    return True


def share_paper_holds(paper, poly, function, low, high, e):
    """Whether a paper shows that the error is at most e times |function|, which is above 0 or below 0 throughout."""
    papers, terms = papers_and_terms(paper, function)
    parts = parts_of(function, low, high, terms) if papers is not None else []
    if papers is None or len(papers) != len(parts):
        return False
    rest, e = tail_by_sum(function, low, high, terms), fraction(e)
    sign = 1 if worth(parts[0][0], fraction(low)) > 0 else -1
    for item, (top, bottom, left, right) in zip(papers, parts):
        least, most = top * sign - bottom * pair(rest), top * sign + bottom * pair(rest)
        above = least * pair(1 + e) - poly * bottom * sign
        under = poly * bottom * sign - most * pair(1 - e)
        if not split_holds(above, left, right, item.above) or not split_holds(under, left, right, item.under):
            return False
    return True


def value_near(function, point, terms=60):
    """The value of a function at a Fraction, and how far it is from it at most."""
    if isinstance(function, Mixed):
        left = tail_by_sum(function, pair(-abs(point)), pair(abs(point)), terms) if point != 0 else Fraction(0)
        return worth(sums_by_terms(function, terms), point), left
    if isinstance(function, Quotient):
        return worth(function.top, point) / worth(function.bottom, point), Fraction(0)
    if isinstance(function, Pieces):
        for start, end, poly in zip(function.knots, function.knots[1:], function.polys):
            if fraction(start) <= point <= fraction(end):
                return worth(poly, point), Fraction(0)
    return worth(function, point), Fraction(0)


def moments_vanish(rows, powers):
    """Whether for each of the powers the sum of all share * point ** k is 0, for rows (point, share)."""
    return all(sum(fraction(share) * fraction(point) ** power for point, share in rows) == 0 for power in powers)
