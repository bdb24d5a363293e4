"""Functions on intervals as parts: quotients of polynomials that a function is, or is near to, piece by piece.

A part is a row (top, bottom, low, high): on its interval the function is top / bottom, the bottom being above 0; but
for a Mixed function with rows that do not end, which differs from its one part by at most the tail.
"""

from nearcurves.checks import need_interval
from nearcurves.errors import BadInterval, Fewer, Pole
from nearcurves.functions import Mixed, Pieces, Quotient, greater_size, is_endless, is_outside, sums, tail, terms_for
from nearcurves.polys import Poly
from nearcurves.ratios import lower, minus, plus, share, told
from nearcurves.signs import Split, count_zeros, never_below

MOST_BITS = 60


def need_interval_of(function, low, high):
    """BadInterval for what is no interval, or, for Pieces, one that is not within the knots."""
    need_interval(low, high)
    if is_outside(function, low) or is_outside(function, high):
        raise BadInterval(low, high)


def need_no_pole(function, low, high):
    """Pole() for a Quotient whose bottom has a zero in an interval."""
    if isinstance(function, Quotient) and count_zeros(function.bottom, low, high) > 0:
        raise Pole()


def parts_on(function, low, high, terms):
    """The parts of a function on an interval, of a Mixed one by its sums."""
    ends = (told(low, "low"), told(high, "high"))
    if isinstance(function, Pieces):
        return pieces_between(function, ends)
    if isinstance(function, Quotient):
        top, bottom = function.top, function.bottom
        if lower(bottom.at(low), 0):
            top, bottom = -top, -bottom
        return [(top, bottom, *ends)]
    return [(sums(function, terms), Poly((1,)), *ends)]


def pieces_between(function, ends):
    """The parts of Pieces: what the interval has of each piece, as far as this is more than a point."""
    parts = []
    for start, end, poly in zip(function.knots, function.knots[1:], function.polys):
        low = ends[0] if lower(start, ends[0]) else start
        high = ends[1] if lower(ends[1], end) else end
        if lower(low, high):
            parts.append((poly, Poly((1,)), low, high))
    return parts


def terms_within(function, low, high, most):
    """The least terms for which the tail is at most a ratio above 0; 0 for what has no tail. TooWide()."""
    if not isinstance(function, Mixed):
        return 0
    return terms_for(function, greater_size(low, high), most)


def tail_of(function, low, high, terms):
    """The tail of a function on an interval, 0 for what has none; None if the terms are too few for it."""
    if not is_endless(function):
        return (0, 1)
    try:
        return tail(function, low, high, terms)
    except Fewer:
        return None


def error_at(poly, part, point):
    """How far a Poly is from a part at a point."""
    return size_of(minus(poly.at(point), share(part[0].at(point), part[1].at(point))))


def size_of(ratio):
    """A ratio without its sign."""
    top, bottom = ratio
    return abs(top), bottom


def plain_margins(poly, parts, e):
    """Rows (above, under, low, high): the error is at most e on a part if above and under are nowhere below 0 there."""
    rows = []
    for top, bottom, low, high in parts:
        room = bottom * e
        difference = poly * bottom - top
        rows.append((room - difference, room + difference, low, high))
    return rows


def share_margins(poly, parts, e, rest):
    """The same for the error e * |f| of a function f that differs by at most rest from its parts, all above 0."""
    rows = []
    for top, bottom, low, high in parts:
        least = top - bottom * rest
        most = top + bottom * rest
        above = least * plus(1, e) - poly * bottom
        under = poly * bottom - most * minus(1, e)
        rows.append((above, under, low, high))
    return rows


def turned_parts(parts):
    """The parts of the negative of a function."""
    return [(-top, bottom, low, high) for top, bottom, low, high in parts]


def sign_of_parts(parts, rest):
    """1 if all parts are above rest at all points of their intervals, -1 if all are below -rest, else 0."""
    if are_all_above(parts, rest):
        return 1
    return -1 if are_all_above(turned_parts(parts), rest) else 0


def are_all_above(parts, rest):
    """Whether all parts are above a ratio at all points of their intervals."""
    return all([is_above_zero(top - bottom * rest, low, high) for top, bottom, low, high in parts])


def is_above_zero(poly, low, high):
    """Whether a Poly is above 0 at all points of an interval."""
    if not lower(0, poly.at(low)) or not lower(0, poly.at(high)):
        return False
    answer = never_below(poly, low, high)
    if not isinstance(answer, Split):
        return False
    # The rest of a split is 0 at ends alone, as its zeros are single ones; so only the root could be.
    return answer.root.degree() < 1 or count_zeros(answer.root, low, high) == 0


def signed_parts(function, low, high, bits):
    """A tuple (terms, rest, sign, parts) for shares of a function: its parts, turned if the sign is -1, are above rest.

    The terms are those for the least number of bits, from the told one on, for which there is a sign. Pole() if there
    is none up to 60; TooWide().
    """
    terms = None
    for more in range(bits, MOST_BITS + 1):
        wanted = terms_within(function, low, high, (1, 1 << more))
        if wanted != terms:
            terms = wanted
            rest = tail_of(function, low, high, terms)
            parts = parts_on(function, low, high, terms)
            sign = sign_of_parts(parts, rest)
            if sign != 0:
                return terms, rest, sign, (parts if sign > 0 else turned_parts(parts))
    raise Pole()


def least_share_at(poly, part, rest, point):
    """A ratio that |p - f| / |f| is at least at a point, f being above 0 and at most rest from the part."""
    number = poly.at(point)
    middle = share(part[0].at(point), part[1].at(point))
    if lower(middle, number):
        # p / f is least for the greatest f.
        return minus(share(number, plus(middle, rest)), 1)
    # What is below 0 is, in shares, nearer to a great f; what is above 0, to a small one.
    end = plus(middle, rest) if lower(number, 0) else minus(middle, rest)
    return minus(1, share(number, end))


def value_in(parts, point):
    """The value of the part whose interval has a point."""
    ahead = [part for part in parts[:-1] if lower(part[3], point)]
    top, bottom, _, _ = parts[len(ahead)]
    return share(top.at(point), bottom.at(point))
