"""Signs of polynomials at all points of an interval, their zeros, and their least values."""

from nearcurves.checks import held, is_ascending, is_judged_ratio, need_bits, need_interval
from nearcurves.errors import BadNumber
from nearcurves.isolating import cell_of, has_change, zero_spots
from nearcurves.leasts import least_multiple
from nearcurves.polys import Poly, over_one_bottom, simple_parts, whole_row
from nearcurves.ratios import lower, lowest, told
from nearcurves.ratiozeros import ratio_zeros, without_zeros
from nearcurves.wholecorners import halves_of, inner_point, interval_corners
from nearcurves.wholerows import product_row


class Split:
    """Shows that a polynomial is nowhere below 0 on an interval.

    It is rest * root * root, and the corners of rest are from 0 on between each two neighboring cuts.
    """

    def __init__(self, root, rest, cuts):
        self.root = held(root)
        self.rest = held(rest)
        self.cuts = held(cuts)


class Below:
    """A point at which a polynomial is below 0, and its value there."""

    def __init__(self, point, number):
        self.point = held(point)
        self.number = held(number)


class Floor:
    """A number that a polynomial is nowhere below, with a Split, and a point that tells that it is near."""

    def __init__(self, number, split, point):
        self.number = held(number)
        self.split = held(split)
        self.point = held(point)


def never_below(poly, low, high):
    """A Split of a polynomial that is from 0 on at all points of an interval; otherwise a Below."""
    need_interval(low, high)
    root, rest = square_and_rest(poly)
    row = over_one_bottom(rest.numbers)[0]
    cuts = []
    waiting = [(0, 0, interval_corners(row, low, high, max(0, len(row) - 1)))]
    while waiting:
        place, level, corners = waiting.pop()
        if min(corners) >= 0:
            if place > 0:
                cuts.append(inner_point(low, high, place, level))
        else:
            point = point_below(poly, low, high, place, level, corners)
            if point is not None:
                return Below(point, poly.at(point))
            below, above = halves_of(corners)
            waiting.append((2 * place + 1, level + 1, above))
            waiting.append((2 * place, level + 1, below))
    return Split(root, rest, cuts)


def point_below(poly, low, high, place, level, corners):
    """An end of a piece at which a polynomial is below 0; None if it is so at none, by the corners of its rest."""
    for corner, end in ((corners[0], place), (corners[-1], place + 1)):
        if corner < 0:
            point = inner_point(low, high, end, level)
            # Where the root is 0, the polynomial is 0, though its rest is below 0 there.
            if poly.at(point)[0] < 0:
                return point
    return None


def square_and_rest(poly):
    """Polys root and rest, such that a Poly is rest * root * root, and rest has no factor twice."""
    parts = simple_parts(poly)
    if len(parts) < 2:
        return Poly((1,)), poly
    root = Poly((1,))
    rest = Poly((poly.lead(),))
    for times, part in enumerate(parts, start=1):
        for _ in range(times // 2):
            root = root * part
        if times % 2 == 1:
            rest = rest * part
    return root, rest


def is_split(poly, low, high, answer):
    """Whether any value is a Split of a polynomial on an interval."""
    need_interval(low, high)
    if not isinstance(answer, Split) or not isinstance(answer.root, Poly) or not isinstance(answer.rest, Poly):
        return False
    if not are_cuts(answer.cuts, low, high):
        return False
    if not answer.rest * answer.root * answer.root == poly:
        return False
    row = over_one_bottom(answer.rest.numbers)[0]
    ends = [low, *answer.cuts, high]
    for start, end in zip(ends, ends[1:]):
        if min(interval_corners(row, start, end, max(0, len(row) - 1))) < 0:
            return False
    return True


def are_cuts(value, low, high):
    """Whether any value is a tuple of ascending ratios between low and high."""
    if not isinstance(value, tuple) or not all([is_judged_ratio(item) for item in value]):
        return False
    return is_ascending([low, *value, high])


def parted_zeros(poly):
    """The zeros of a Poly that are ratios, as a list of pairs (ratio, times), and for each times a row.

    This row is primitive and has, once, just those zeros with these times that are no ratios.
    """
    ratios = []
    rows = []
    for times, part in enumerate(simple_parts(poly), start=1):
        row = whole_row(part)
        found = ratio_zeros(row)
        ratios.extend([(ratio, times) for ratio in found])
        rows.append(without_zeros(row, found))
    return ratios, rows


def ratios_within(ratios, low, high):
    """Those of some pairs (ratio, times) whose ratio is in an interval, ascending."""
    found = [pair for pair in ratios if not lower(pair[0], low) and not lower(high, pair[0])]
    bottom = 1
    for ratio, _ in found:
        bottom = bottom * ratio[1]
    return sorted(found, key=lambda pair: pair[0][0] * (bottom // pair[0][1]))


def need_zeros(poly, low, high):
    """The errors of what asks for zeros."""
    need_interval(low, high)
    if poly.degree() < 0:
        raise BadNumber("degree", -1)


def count_zeros(poly, low, high):
    """How many unlike zeros a polynomial has in an interval."""
    need_zeros(poly, low, high)
    ratios, rows = parted_zeros(poly)
    spots = zero_spots(product_of(rows), low, high)
    return len(spots) + len(ratios_within(ratios, low, high))


def product_of(rows):
    """The row of the product of some polynomials."""
    product = [1]
    for row in rows:
        product = product_row(product, row)
    return product


def zeros(poly, low, high, bits):
    """All zeros of a polynomial in an interval, as rows (one, other, times) of where they are, ascending."""
    need_zeros(poly, low, high)
    need_bits(bits)
    return tuple(zero_rows(poly, low, high, bits))


def zero_rows(poly, low, high, bits):
    """The rows of all zeros in an interval, as a list, for any number of bits and a Poly of degree 0 or more."""
    ratios, rows = parted_zeros(poly)
    product = product_of(rows)
    found = []
    # Between ratios that are zeros stand the others: so all come in their order.
    start = told(low, "low")
    for ratio, times in ratios_within(ratios, low, high):
        if lower(start, ratio):
            found.extend(zeros_between(product, rows, start, ratio, bits))
        found.append((ratio, ratio, times))
        start = ratio
    if lower(start, high):
        found.extend(zeros_between(product, rows, start, high, bits))
    return found


def zeros_between(product, rows, low, high, bits):
    """The rows of the zeros of an interval that are no ratios, as a list; product is the product of all rows."""
    found = []
    for spot in zero_spots(product, low, high):
        cell = cell_of(product, spot, bits)
        times = [many for many, row in enumerate(rows, start=1) if has_change(row, spot)][0]
        found.append((lowest(cell, 1 << bits), lowest(cell + 1, 1 << bits), times))
    return found


def least_value(poly, low, high, bits):
    """The greatest multiple of the gap that a polynomial is nowhere below on an interval."""
    need_interval(low, high)
    need_bits(bits)
    many, _, point = least_multiple([(poly, Poly((1,)), low, high)], bits)
    number = lowest(many, 1 << bits)
    found = never_below(poly - number, low, high)
    if isinstance(found, Below):
        # The least value is just below this multiple, so close that the next one does.
        point = found.point
        number = lowest(many - 1, 1 << bits)
        found = never_below(poly - number, low, high)
    return Floor(number, found, point)
