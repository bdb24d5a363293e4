"""Where polynomials have their zeros that are no ratios: told by pieces of an interval, halved again and again."""

from nearcurves.ratios import lower
from nearcurves.wholecorners import halves_of, inner_point, interval_corners, sign_changes, value_at


def zero_spots(row, low, high):
    """Pairs (one, other) of ratios, ascending, with just one zero between each, for all zeros of an interval.

    The row has no zero twice, and no zero at a ratio of the interval. Facts: corners whose signs never change leave no
    zero, and corners whose signs change once leave just one; halving comes to such corners.
    """
    found = []
    if len(row) < 2:
        return found
    waiting = [(0, 0, interval_corners(row, low, high, len(row) - 1))]
    while waiting:
        place, level, corners = waiting.pop()
        changes = sign_changes(corners)
        if changes == 1:
            one = inner_point(low, high, place, level)
            found.append((one, inner_point(low, high, place + 1, level)))
        elif changes > 1:
            below, above = halves_of(corners)
            waiting.append((2 * place + 1, level + 1, above))
            waiting.append((2 * place, level + 1, below))
    return found


def cell_of(row, spot, bits):
    """The integer k such that the one zero of a spot lies between k / 2 ** bits and (k + 1) / 2 ** bits."""
    one, other = spot
    below = (one[0] << bits) // one[1]
    above = -((-other[0] << bits) // other[1])
    rising = value_at(row, one[0], one[1]) < 0
    while above - below > 1:
        middle = (below + above) // 2
        if is_ahead(row, spot, rising, (middle, 1 << bits)):
            below = middle
        else:
            above = middle
    return below


def is_ahead(row, spot, rising, point):
    """Whether a ratio is below the one zero of a spot, at which the row rises or falls."""
    one, other = spot
    if not lower(one, point):
        return True
    if not lower(point, other):
        return False
    return (value_at(row, point[0], point[1]) < 0) == rising


def has_change(row, spot):
    """Whether a row has unlike signs at both ends of a spot."""
    one, other = spot
    return (value_at(row, one[0], one[1]) < 0) != (value_at(row, other[0], other[1]) < 0)
