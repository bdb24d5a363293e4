"""Polynomials with ratios as their numbers."""

from math import lcm

from nearcurves.divisors import common_row
from nearcurves.errors import BadNumber, BadRow, BadText
from nearcurves.polytexts import read_terms
from nearcurves.ratios import is_ratio, is_ratio_row, lowest, plus, ratio_text, times, told
from nearcurves.wholerows import long_division, primitive_row, product_row


class Poly:
    """The polynomial with these numbers for the powers 0, 1, 2, .. in this order."""

    def __init__(self, numbers):
        if not is_ratio_row(numbers):
            raise BadRow(numbers)
        row = [told(number, "number") for number in numbers]
        while row and row[-1][0] == 0:
            row.pop()
        self.numbers = tuple(row)

    def __eq__(self, other):
        return isinstance(other, Poly) and self.numbers == other.numbers

    def __add__(self, other):
        right = as_poly(other)
        if right is None:
            return NotImplemented
        return Poly(sums_of(self.numbers, right.numbers))

    def __radd__(self, other):
        left = as_poly(other)
        if left is None:
            return NotImplemented
        return Poly(sums_of(left.numbers, self.numbers))

    def __sub__(self, other):
        right = as_poly(other)
        if right is None:
            return NotImplemented
        return Poly(sums_of(self.numbers, opposites_of(right.numbers)))

    def __rsub__(self, other):
        left = as_poly(other)
        if left is None:
            return NotImplemented
        return Poly(sums_of(left.numbers, opposites_of(self.numbers)))

    def __mul__(self, other):
        right = as_poly(other)
        if right is None:
            return NotImplemented
        return Poly(products_of(self.numbers, right.numbers))

    def __rmul__(self, other):
        left = as_poly(other)
        if left is None:
            return NotImplemented
        return Poly(products_of(left.numbers, self.numbers))

    def __neg__(self):
        return Poly(opposites_of(self.numbers))

    def degree(self):
        """The greatest power whose number is not 0; -1 if there is none."""
        return len(self.numbers) - 1

    def lead(self):
        """The number of the greatest power; (0, 1) if there is none."""
        return self.numbers[-1] if self.numbers else (0, 1)

    def at(self, point):
        """The value at a ratio."""
        top, bottom = told(point, "point")
        row, below = over_one_bottom(self.numbers)
        value = 0
        scale = 1
        for number in row[::-1]:
            value = value * top + number * scale
            scale = scale * bottom
        # The last number has gone into the value with one bottom less than stands in the scale now.
        return lowest(value * bottom, below * scale)

    def slope(self):
        """The slope, a Poly."""
        return Poly([times(self.numbers[power], power) for power in range(1, len(self.numbers))])

    def moved(self, start, step):
        """The Poly that has at each t the value of this one at start + step * t."""
        start_top, start_bottom = told(start, "start")
        step_top, step_bottom = told(step, "step")
        bottom = lcm(start_bottom, step_bottom)
        line = [start_top * (bottom // start_bottom), step_top * (bottom // step_bottom)]
        row, below = over_one_bottom(self.numbers)
        values = [0]
        scale = 1
        for number in row[::-1]:
            values = product_row(values, line)
            values[0] = values[0] + number * scale
            scale = scale * bottom
        # As in at, the scale has one bottom more than the last number had.
        return poly_over([value * bottom for value in values], below * scale)


def as_poly(value):
    """A Poly as it is, a ratio as a Poly; None for all else."""
    if isinstance(value, Poly):
        return value
    return Poly((value,)) if is_ratio(value) else None


def number_of(numbers, power):
    """The number of a power, which may be above the degree."""
    return numbers[power] if power < len(numbers) else (0, 1)


def sums_of(one, other):
    """The numbers of the sum of two polynomials, told by their numbers."""
    powers = range(max(len(one), len(other)))
    return [plus(number_of(one, power), number_of(other, power)) for power in powers]


def opposites_of(numbers):
    """The numbers with their signs changed."""
    return [(-top, bottom) for top, bottom in numbers]


def products_of(one, other):
    """The numbers of the product of two polynomials, told by their numbers."""
    row, bottom = over_one_bottom(one)
    other_row, other_bottom = over_one_bottom(other)
    below = bottom * other_bottom
    return [(top, below) for top in product_row(row, other_row)]


def over_one_bottom(numbers):
    """A row of integers and one bottom, such that each number is its integer divided by the bottom.

    Sums and products of integers need no lowest terms on the way, which ratios would.
    """
    below = 1
    for number in numbers:
        below = lcm(below, number[1])
    return [top * (below // bottom) for top, bottom in numbers], below


def poly_over(row, bottom):
    """The Poly whose numbers are those of a row of integers divided by an integer above 0."""
    return Poly([(top, bottom) for top in row])


def whole_row(poly):
    """The primitive row of integers that a Poly of degree 0 or more is a multiple of."""
    return primitive_row(over_one_bottom(poly.numbers)[0])


def plain_of(poly):
    """A Poly divided by its lead; that of the degree -1 as it is."""
    if not poly.numbers:
        return poly
    row = whole_row(poly)
    return poly_over(row, row[-1])


def divided(one, other):
    """The pair (quotient, rest) of one divided by other."""
    if not other.numbers:
        raise BadNumber("divisor", 0)
    row, bottom = over_one_bottom(one.numbers)
    other_row, other_bottom = over_one_bottom(other.numbers)
    quotient, rest, scale = long_division(row, other_row)
    below = bottom * scale
    return poly_over([number * other_bottom for number in quotient], below), poly_over(rest, below)


def common(one, other):
    """The plain Poly of the greatest degree that divides both; Poly(()) if both have the degree -1."""
    if not one.numbers:
        return plain_of(other)
    if not other.numbers:
        return plain_of(one)
    row = common_row(whole_row(one), whole_row(other))
    return poly_over(row, row[-1])


def quotients_of(polys):
    """The quotients of each of some Polys divided by the next one, which divides it."""
    return [divided(one, other)[0] for one, other in zip(polys, polys[1:])]


def simple_parts(poly):
    """The plain Polys of the single zeros, of the double ones, and so on."""
    # Each further one has all zeros once less often than the one ahead of it; so each quotient of neighbors has, just
    # once, the zeros that are left there.
    fewer = [plain_of(poly)]
    while len(fewer[-1].numbers) > 1:
        fewer.append(common(fewer[-1], fewer[-1].slope()))
    left = quotients_of(fewer) + [Poly((1,))]
    return tuple(quotients_of(left))


def poly_of(text):
    """The Poly of a text."""
    if not isinstance(text, str):
        raise BadText(0)
    poly, end = read_poly(text, 0)
    if end < len(text):
        raise BadText(end + 1)
    return poly


def read_poly(text, at):
    """The Poly of the text of one that begins at an index, and the index behind it and the spaces behind it."""
    terms, end = read_terms(text, at)
    numbers = [(0, 1)] * 13
    for number, power in terms:
        numbers[power] = plus(numbers[power], number)
    return Poly(numbers), end


def poly_text(poly):
    """The text of a Poly."""
    text = ""
    for power in range(len(poly.numbers)):
        top, bottom = poly.numbers[power]
        if top != 0:
            text = text + sign_text(top, text == "") + term_text((abs(top), bottom), power)
    return text if text else "0"


def sign_text(top, first):
    """The sign ahead of a term, the first one or a further one."""
    if first:
        return "-" if top < 0 else ""
    return " - " if top < 0 else " + "


def term_text(number, power):
    """The text of a term, for a number above 0."""
    if power == 0:
        return ratio_text(number)
    letter = "x" if power == 1 else f"x^{power}"
    return letter if number == (1, 1) else f"{ratio_text(number)}*{letter}"
