"""Functions, and polynomials that they are near to."""

from nearcurves.checks import held, is_ascending, is_whole_from, need_bits, need_interval
from nearcurves.errors import BadNumber, BadRow, Fewer, Pole, TooWide, Unlike
from nearcurves.polys import Poly
from nearcurves.ratios import is_ratio, is_ratio_row, lower, minus, plus, share, times, told
from nearcurves.rows import first_numbers, follower, number_at, power_of, slope_row, terms_of
from nearcurves.signs import zeros


class Mixed:
    """A Poly plus the sum of all factor * row, for some pairs (factor, row)."""

    def __init__(self, poly, parts):
        self.poly = held(poly)
        self.parts = tuple([tuple(pair) for pair in parts])


class Quotient:
    """One Poly divided by another one."""

    def __init__(self, top, bottom):
        if bottom.degree() < 0:
            raise BadNumber("bottom", 0)
        self.top = top
        self.bottom = bottom


class Pieces:
    """A Poly for each two neighboring knots."""

    def __init__(self, knots, polys):
        if not is_ratio_row(knots) or len(knots) < 2 or not is_ascending(knots):
            raise BadRow(knots)
        if len(polys) != len(knots) - 1:
            raise Unlike("pieces")
        for knot, one, other in zip(knots[1:], polys, polys[1:]):
            if one.at(knot) != other.at(knot):
                raise Unlike("knots")
        self.knots = tuple([told(knot, "knot") for knot in knots])
        self.polys = tuple(polys)


def greater_size(low, high):
    """The greater one of |low| and |high|, for low not above high."""
    size = told(high, "high")
    other = minus(0, low)
    return other if lower(size, other) else size


def narrow_from(row, size):
    """The least k from which on a row is narrow on an interval, r being the size; None if it is too wide."""
    if terms_of(row) is not None:
        return 0
    top = row.top * times(2, power_of(size, row.step))
    # It is narrow where the square of top is not above that of bottom, so where this is not below 0.
    room = (row.bottom - top) * (row.bottom + top)
    if room.degree() < 0:
        return 0
    if room.lead()[0] < 0:
        return None
    for cell in zeros(room, -1, zero_bound(room), 0)[::-1]:
        # The last integer ahead of a zero: between zeros signs are the same, so this one tells of all of them.
        last = last_whole_below(cell)
        if last >= 0 and room.at(last)[0] < 0:
            return last + 1
    return 0


def last_whole_below(cell):
    """The greatest integer that is below a zero, for its row (one, other, times) and bits 0."""
    top, bottom = cell[0]
    if cell[0] == cell[1]:
        return (top - 1) // bottom
    return top // bottom


def zero_bound(poly):
    """An integer that is above the sizes of all zeros of a Poly of degree 0 or more."""
    lead = poly.lead()
    most = 0
    for number in poly.numbers:
        top, bottom = share(number, lead)
        most = max(most, abs(top) // bottom + 1)
    return most + 1


def is_endless(function):
    """Whether a function is a Mixed one with a row that does not end."""
    return isinstance(function, Mixed) and any([terms_of(row) is None for _, row in function.parts])


def narrow_start(function, size):
    """The least number of terms from which on all rows of a Mixed function are narrow. TooWide()."""
    starts = [narrow_from(row, size) for _, row in function.parts]
    if None in starts:
        raise TooWide()
    return max(starts, default=0)


def need_narrow(function, low, high):
    """TooWide() for a Mixed function with a row that is too wide on an interval."""
    if isinstance(function, Mixed):
        narrow_start(function, greater_size(low, high))


def sums(function, terms):
    """The Poly of the first terms of all rows; rows that end are taken whole."""
    if not is_whole_from(terms, 0):
        raise BadNumber("terms", terms)
    if isinstance(function, Poly):
        return function
    total = function.poly
    for factor, row in function.parts:
        whole = terms_of(row)
        total = total + factor * row_poly(row, terms if whole is None else whole)
    return total


def row_poly(row, terms):
    """The Poly of the first terms of a row."""
    numbers = [0] * (row.step * terms + row.shift)
    for k, number in enumerate(first_numbers(row, terms)):
        numbers[row.step * k + row.shift] = number
    return Poly(numbers)


def tail(function, low, high, terms):
    """A ratio that the function differs from its sums by at most, at all points of an interval."""
    need_interval(low, high)
    if not is_whole_from(terms, 0):
        raise BadNumber("terms", terms)
    if isinstance(function, Poly):
        return (0, 1)
    size = greater_size(low, high)
    if narrow_start(function, size) > terms:
        raise Fewer("terms")
    return sum_of([first_left_out(factor, row, size, terms) for factor, row in endless_parts(function)])


def endless_parts(function):
    """The parts of a Mixed function whose rows do not end."""
    return [(factor, row) for factor, row in function.parts if terms_of(row) is None]


def first_left_out(factor, row, size, terms):
    """What a part whose row does not end adds to the tail."""
    number = times(number_at(row, terms), power_of(size, row.step * terms + row.shift))
    return times((2 * abs(number[0]), number[1]), size_sum(factor, size))


def size_sum(factor, size):
    """The sum of all |f_j| * size ** j, f_j being the numbers of a Poly."""
    return Poly([(abs(top), bottom) for top, bottom in factor.numbers]).at(size)


def sum_of(ratios):
    """The sum of some ratios."""
    total = (0, 1)
    for ratio in ratios:
        total = plus(total, ratio)
    return total


def least_terms(function, low, high, bits):
    """The least number of terms for which the tail is at most 2 ** -bits."""
    need_interval(low, high)
    need_bits(bits)
    if isinstance(function, Poly):
        return 0
    return terms_for(function, greater_size(low, high), (1, 1 << bits))


def terms_for(function, size, most):
    """The least number of terms for which the tail of a Mixed function is at most a ratio above 0. TooWide()."""
    terms = narrow_start(function, size)
    parts = endless_parts(function)
    lefts = [first_left_out(factor, row, size, terms) for factor, row in parts]
    while lower(most, sum_of(lefts)):
        # Each row's first term that is left out is followed by the next one.
        lefts = [next_left_out(left, row, size, terms) for left, (_, row) in zip(lefts, parts)]
        terms = terms + 1
    return terms


def next_left_out(left, row, size, terms):
    """What a part adds to the tail behind one more term, for what it adds ahead of it."""
    top, bottom = times(follower(row, left, terms), power_of(size, row.step))
    return abs(top), bottom


def value(function, point, bits):
    """A pair of ratios, at most the gap from one another, between which the value at a point lies."""
    if not is_ratio(point) or is_outside(function, point):
        raise BadNumber("point", point)
    need_bits(bits)
    if isinstance(function, Mixed) and is_endless(function) and told(point, "point")[0] != 0:
        size = greater_size(point, point)
        terms = terms_for(function, size, (1, 2 << bits))
        middle = sums(function, terms).at(point)
        left = sum_of([first_left_out(factor, row, size, terms) for factor, row in endless_parts(function)])
        return minus(middle, left), plus(middle, left)
    # At the point 0 only a first term is other than 0.
    number = exact_value(sums(function, 1) if isinstance(function, Mixed) else function, point)
    return number, number


def is_outside(function, point):
    """Whether a function is one of Pieces, and a ratio outside of its knots."""
    if not isinstance(function, Pieces):
        return False
    return lower(point, function.knots[0]) or lower(function.knots[-1], point)


def exact_value(function, point):
    """The value of a Poly, a Quotient or Pieces at a ratio."""
    if isinstance(function, Pieces):
        return piece_at(function, point).at(point)
    if isinstance(function, Quotient):
        below = function.bottom.at(point)
        if below[0] == 0:
            raise Pole()
        return share(function.top.at(point), below)
    return function.at(point)


def piece_at(function, point):
    """The Poly of Pieces for a point within the knots."""
    ahead = [knot for knot in function.knots[1:-1] if lower(knot, point)]
    return function.polys[len(ahead)]


def slope_of(function):
    """The slope of a function, a function."""
    if isinstance(function, Mixed):
        parts = []
        for factor, row in function.parts:
            parts.append((factor.slope(), row))
            parts.append((factor, slope_row(row)))
        return Mixed(function.poly.slope(), parts)
    if isinstance(function, Quotient):
        top, bottom = function.top, function.bottom
        return Quotient(top.slope() * bottom - top * bottom.slope(), bottom * bottom)
    if isinstance(function, Pieces):
        return Pieces(function.knots, [poly.slope() for poly in function.polys])
    return function.slope()
