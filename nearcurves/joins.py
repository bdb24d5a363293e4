"""Joined pieces as sums of multiples of powers: of x at all points, of x less a break from the break on.

The powers of x come first, then, break for break, those from the smoothness plus 1 to the degree.
"""

from math import lcm

from nearcurves.fits import SHORT_BITS, Heights, first_fit_table, fit_from, raised, shortened
from nearcurves.linear import greatest_prices
from nearcurves.polys import Poly, number_of
from nearcurves.ratios import lower, minus


def joint_row(point, breaks, degree, smooth):
    """The values of all these powers at a point, as integers that are the values times a factor, and the factor."""
    bases = [point] + [minus(point, item) if lower(item, point) else (0, 1) for item in breaks]
    below = 1
    for _, bottom in bases:
        below = lcm(below, bottom)
    tops = [top * (below // bottom) for top, bottom in bases]
    heights = powers_of(tops[0], below, 0, degree)
    for top in tops[1:]:
        heights.extend(powers_of(top, below, smooth + 1, degree))
    return heights, raised(below, degree)


def powers_of(top, bottom, least, most):
    """The powers of top / bottom from the least to the most, times the most power of the bottom."""
    return [raised(top, power) * raised(bottom, most - power) for power in range(least, most + 1)]


def joint_fit(points, numbers, weights, breaks, degree, smooth):
    """Points with numbers and weights as rows of integers, for all the powers."""
    size = degree + 1 + len(breaks) * (degree - smooth)
    fit = Heights((), (), (), tuple(range(size)))
    for point, number, weight in zip(points, numbers, weights):
        fit.put(joint_row(point, breaks, degree, smooth), number, weight)
    return fit


def nearest_joined(points, breaks, degree, smooth):
    """A row (polys, error, shares) for the nearest joined pieces."""
    told_rows = (points.points, points.numbers, points.weights, breaks)
    fit = joint_fit(*told_rows, degree, smooth)
    answer = None
    for bits in SHORT_BITS:
        rows = [[shortened(ratio, bits) for ratio in row] for row in told_rows]
        # Where all is short, this is the way straight to the answer; where not, to where it mostly is.
        table, costs, scales = first_fit_table(joint_fit(*rows, degree, smooth))
        greatest_prices(table, costs, scales)
        answer = fit_from(fit, table.chosen)
        if answer is not None:
            break
    if answer is None:
        answer = fit_from(fit, [])
    poly, error, shares, _ = answer
    return joined_polys(poly, breaks, degree, smooth), error, shares


def joined_polys(numbers, breaks, degree, smooth):
    """The Polys between the breaks, for a Poly with the numbers of all the powers."""
    polys = [Poly([number_of(numbers.numbers, power) for power in range(degree + 1)])]
    place = degree + 1
    for item in breaks:
        tail = [number_of(numbers.numbers, place + power) for power in range(degree - smooth)]
        polys.append(polys[-1] + Poly([(0, 1)] * (smooth + 1) + tail).moved(minus(0, item), 1))
        place = place + degree - smooth
    return polys


def are_joined(pieces, degree, smooth):
    """Whether Pieces have Polys of a degree at most, and at their inner knots equal slopes up to the s-th ones."""
    if not all([isinstance(poly, Poly) and poly.degree() <= degree for poly in pieces.polys]):
        return False
    for knot, one, other in zip(pieces.knots[1:], pieces.polys, pieces.polys[1:]):
        # Both have equal values and slopes there just if their difference is a multiple of so many factors x - knot.
        numbers = (one - other).moved(knot, 1).numbers
        if any([top != 0 for top, _ in numbers[:smooth + 1]]):
            return False
    return True
