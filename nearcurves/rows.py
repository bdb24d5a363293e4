"""Rows of powers: told by their first number and by the quotients of neighbors."""

from nearcurves.checks import is_whole_from
from nearcurves.errors import BadNumber
from nearcurves.polys import Poly, common, divided, whole_row
from nearcurves.ratios import is_ratio, share, times, told
from nearcurves.ratiozeros import ratio_zeros


class Row:
    """The sum of all c(k) * x ** (step * k + shift), c(0) being start and c(k + 1) c(k) * top(k) / bottom(k)."""

    def __init__(self, start, top, bottom, step, shift):
        if not is_ratio(start):
            raise BadNumber("start", start)
        if not is_whole_from(step, 1):
            raise BadNumber("step", step)
        if not is_whole_from(shift, 0):
            raise BadNumber("shift", shift)
        zero = least_whole_zero(bottom)
        if zero is not None:
            raise BadNumber("bottom", zero)
        self.start = told(start, "start")
        self.top = top
        self.bottom = bottom
        self.step = step
        self.shift = shift


def least_whole_zero(poly):
    """The least integer from 0 on at which a Poly is 0; None if there is none."""
    if poly.degree() < 0:
        return 0
    single = divided(poly, common(poly, poly.slope()))[0]
    for top, bottom in ratio_zeros(whole_row(single)):
        if bottom == 1 and top >= 0:
            return top
    return None


def follower(row, number, k):
    """The number c(k + 1) of a row, for the number c(k)."""
    return times(number, share(row.top.at(k), row.bottom.at(k)))


def first_numbers(row, many):
    """The first numbers of a row, as a list."""
    found = []
    number = row.start
    for k in range(many):
        found.append(number)
        number = follower(row, number, k)
    return found


def number_at(row, k):
    """The number c(k) of a row."""
    if not is_whole_from(k, 0):
        raise BadNumber("k", k)
    terms = terms_of(row)
    if terms is not None and k >= terms:
        return (0, 1)
    number = row.start
    for place in range(k):
        number = follower(row, number, place)
    return number


def terms_of(row):
    """The least number of terms from which on all numbers of a row are 0; None if it does not end."""
    if row.start[0] == 0:
        return 0
    zero = least_whole_zero(row.top)
    return None if zero is None else zero + 1


def power_of(ratio, many):
    """The product of a ratio and itself, so many times."""
    top, bottom = told(ratio, "ratio")
    above = below = 1
    for _ in range(many):
        above = above * top
        below = below * bottom
    return above, below


def scaled(row, factor):
    """The Row of the row at factor * x."""
    if not is_ratio(factor) or told(factor, "factor")[0] == 0:
        raise BadNumber("factor", factor)
    start = times(row.start, power_of(factor, row.shift))
    return Row(start, row.top * power_of(factor, row.step), row.bottom, row.step, row.shift)


def powered(row, many):
    """The Row of the row at x ** many."""
    if not is_whole_from(many, 1):
        raise BadNumber("many", many)
    return Row(row.start, row.top, row.bottom, row.step * many, row.shift * many)


def slope_row(row):
    """The Row of the slopes of all terms."""
    if row.shift == 0:
        # The first term is no power of x, so its follower comes first.
        top = row.top.moved(1, 1) * Poly((2, 1))
        bottom = row.bottom.moved(1, 1) * Poly((1, 1))
        return Row(times(row.step, follower(row, row.start, 0)), top, bottom, row.step, row.step - 1)
    top = row.top * Poly((row.step + row.shift, row.step))
    bottom = row.bottom * Poly((row.shift, row.step))
    return Row(times(row.shift, row.start), top, bottom, row.step, row.shift - 1)


def exp_row():
    """The row of exp."""
    return Row(1, Poly((1,)), Poly((1, 1)), 1, 0)


def sin_row():
    """The row of sin."""
    return Row(1, Poly((-1,)), Poly((6, 10, 4)), 2, 1)


def cos_row():
    """The row of cos."""
    return Row(1, Poly((-1,)), Poly((2, 6, 4)), 2, 0)


def atan_row():
    """The row of atan."""
    return Row(1, Poly((-1, -2)), Poly((3, 2)), 2, 1)


def log_row():
    """The row of the logarithm of 1 + x."""
    return Row(1, Poly((-1, -1)), Poly((2, 1)), 1, 1)


def power_row(a):
    """The row of (1 + x) ** a."""
    if not is_ratio(a):
        raise BadNumber("a", a)
    return Row(1, Poly((a, -1)), Poly((1, 1)), 1, 0)
