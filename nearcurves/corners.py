"""Corners of polynomials on intervals."""

from nearcurves.checks import is_whole_within, need_interval
from nearcurves.errors import BadNumber, BadRow
from nearcurves.polys import over_one_bottom
from nearcurves.ratios import is_ratio_row, lowest, told
from nearcurves.wholecorners import corner_row, halves_of, stretched_row

MOST_DEGREE = 60


def corners(poly, low, high, degree=None):
    """The corners of a polynomial on an interval, for its own degree or a greater one."""
    need_interval(low, high)
    if degree is None:
        wanted = max(0, poly.degree())
    elif is_whole_within(degree, max(0, poly.degree()), MOST_DEGREE):
        wanted = degree
    else:
        raise BadNumber("degree", degree)
    row, bottom = over_one_bottom(poly.numbers)
    stretched, factor = stretched_row(row, low, high)
    found, scale = corner_row(stretched, wanted)
    return ratios_over(found, bottom * factor * scale)


def halved(row):
    """The corners on the lower and on the upper half of the interval on which these are the corners."""
    if not is_ratio_row(row) or len(row) == 0:
        raise BadRow(row)
    whole, bottom = over_one_bottom([told(number, "number") for number in row])
    below, above = halves_of(whole)
    scaled_bottom = bottom << (len(row) - 1)
    return ratios_over(below, scaled_bottom), ratios_over(above, scaled_bottom)


def ratios_over(row, bottom):
    """The ratios of some integers divided by one integer above 0."""
    return tuple([lowest(number, bottom) for number in row])
