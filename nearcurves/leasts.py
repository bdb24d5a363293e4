"""The least values of quotients of polynomials on intervals, but for less than a gap."""

from nearcurves.polys import over_one_bottom
from nearcurves.ratios import lower
from nearcurves.wholecorners import halves_of, inner_point, interval_corners

# A piece is a tuple (start, place, level, tops, bottoms): the start that it is of, where in its interval it lies (as
# inner_point says), and the corners of top and bottom there, times one and the same integer above 0; one number alone
# stands for bottoms that are all the same.


class Least:
    """The least value that was found so far, and the greatest multiple of the gap that is not above it."""

    def __init__(self, bits):
        self.bits = bits
        self.number = None
        self.spot = None
        self.many = None

    def look(self, number, spot):
        """Takes a value and where it is, if it is below all others."""
        if self.number is None or lower(number, self.number):
            self.number = number
            self.spot = spot
            self.many = (number[0] << self.bits) // number[1]


def least_multiple(starts, bits):
    """A triple (many, start, point) for quotients on intervals: starts are rows (top, bottom, low, high).

    No quotient is anywhere below (many - 1) * 2 ** -bits, that of the start (told by its index) has at the point, a
    ratio, a value below (many + 1) * 2 ** -bits. Bottoms are above 0 on their intervals.
    """
    least = Least(bits)
    pieces = [first_piece(starts, start) for start in range(len(starts))]
    for piece in pieces:
        look_at_ends(least, piece)
    while pieces:
        # All halves of one length are looked at first: so the least value is nearly known before pieces get short.
        halves = []
        for piece in pieces:
            if not is_above(piece, 2 * least.many - 1, bits + 1):
                halves.extend(halves_of_piece(piece))
        for piece in halves:
            look_at_ends(least, piece)
        pieces = halves
    start, place, level = least.spot
    _, _, low, high = starts[start]
    return least.many, start, inner_point(low, high, place, level)


def first_piece(starts, start):
    """The piece of a whole interval."""
    top, bottom, low, high = starts[start]
    top_row, top_below = over_one_bottom(top.numbers)
    bottom_row, bottom_below = over_one_bottom(bottom.numbers)
    if len(bottom_row) == 1:
        return first_plain_piece(start, top_row, top_below * bottom_row[0], bottom_below, low, high)
    degree = max(len(top_row), len(bottom_row)) - 1
    # Both rows are stretched as rows of one degree, so that both are multiplied by the same.
    tops = interval_corners(filled([number * bottom_below for number in top_row], degree), low, high, degree)
    bottoms = interval_corners(filled([number * top_below for number in bottom_row], degree), low, high, degree)
    return start, 0, 0, tops, bottoms


def first_plain_piece(start, top_row, divisor, factor, low, high):
    """The piece of a polynomial: that of a row of integers times a factor, divided by a divisor."""
    degree = max(0, len(top_row) - 1)
    tops = interval_corners(filled([number * factor for number in top_row], degree), low, high, degree)
    bottoms = interval_corners(filled([divisor], degree), low, high, degree)
    return start, 0, 0, tops, bottoms[:1]


def filled(row, degree):
    """The row with zeros behind it up to a degree."""
    return row + [0] * (degree + 1 - len(row))


def halves_of_piece(piece):
    """Both halves of a piece."""
    start, place, level, tops, bottoms = piece
    lower_tops, upper_tops = halves_of(tops)
    if len(bottoms) == 1:
        lower_bottoms = upper_bottoms = [bottoms[0] << (len(tops) - 1)]
    else:
        lower_bottoms, upper_bottoms = halves_of(bottoms)
    below = (start, 2 * place, level + 1, lower_tops, lower_bottoms)
    return [below, (start, 2 * place + 1, level + 1, upper_tops, upper_bottoms)]


def look_at_ends(least, piece):
    """Looks at the values at both ends of a piece."""
    start, place, level, tops, bottoms = piece
    least.look((tops[0], bottoms[0]), (start, place, level))
    least.look((tops[-1], bottoms[-1]), (start, place + 1, level))


def is_above(piece, many, bits):
    """Whether corners show that the quotient is nowhere on a piece below many * 2 ** -bits."""
    tops, bottoms = piece[3], piece[4]
    if len(bottoms) == 1:
        return min(tops) << bits >= many * bottoms[0]
    return all([top << bits >= many * bottom for top, bottom in zip(tops, bottoms)])
