"""What hunts for the nearest polynomial on an interval begin with, and when they end."""

from nearcurves.errors_of import papers_for
from nearcurves.hunting import Hunt, any_rows, plain_aims, share_aims
from nearcurves.leasts import least_multiple
from nearcurves.polys import divided
from nearcurves.ratios import lower, lowest, minus, plus, share, times
from nearcurves.targets import (
    parts_on, plain_margins, share_margins, signed_parts, size_of, tail_of, terms_within, turned_parts, value_in,
)

# What tails and roundings take of the gap is at most one part in 2 ** 5 of it, each.
SMALL_BITS = 5


class ErrorCase:
    """A function on an interval as parts, from which it differs by at most rest, for its errors."""

    def __init__(self, function, low, high, bits):
        self.terms = terms_within(function, low, high, (1, 1 << (bits + SMALL_BITS)))
        self.rest = tail_of(function, low, high, self.terms)
        self.parts = parts_on(function, low, high, self.terms)
        self.turned = False

    def hunt(self, powers, bits):
        """The Hunt for the nearest polynomial."""
        return Hunt(plain_aims(self.parts), powers, bits)

    def margins(self, poly, e):
        """What is nowhere below 0 if the error of a polynomial is at most e."""
        return plain_margins(poly, self.parts, minus(e, self.rest))

    def worth(self, rows):
        """The number of a bar with these rows."""
        return minus(rows_sum(rows, self.parts), self.rest)


class ShareCase:
    """The same for shares of the function: the parts are above rest, those of the negative of it if turned."""

    def __init__(self, function, low, high, bits):
        _, rest, sign, parts = signed_parts(function, low, high, bits)
        self.turned = sign < 0
        # The tail is to be small beside the least value of the function.
        below = bits_below([(top - bottom * rest, bottom, start, end) for top, bottom, start, end in parts])
        self.terms = terms_within(function, low, high, (1, 1 << (bits + SMALL_BITS + below)))
        self.rest = tail_of(function, low, high, self.terms)
        found = parts_on(function, low, high, self.terms)
        self.parts = turned_parts(found) if self.turned else found

    def hunt(self, powers, bits):
        """The Hunt for the nearest polynomial."""
        return Hunt(share_aims(self.parts), powers, bits)

    def margins(self, poly, e):
        """What is nowhere below 0 if the error of a polynomial is at most e times the function."""
        return share_margins(poly, self.parts, e, self.rest)

    def worth(self, rows):
        """The number for shares of a bar with these rows."""
        return share(minus(rows_sum(rows, self.parts), self.rest), plus(rows_size(rows, self.parts), self.rest))


def bits_below(starts):
    """Bits of a gap that quotients, rows (top, bottom, low, high) with values above 0, are nowhere below."""
    bits = 4
    while least_multiple(starts, bits)[0] < 2:
        bits = 2 * bits
    return bits


def rows_sum(rows, parts):
    """The sum of all share * value at the point."""
    total = (0, 1)
    for point, part in rows:
        total = plus(total, times(part, value_in(parts, point)))
    return total


def rows_size(rows, parts):
    """The sum of all |share| * |value at the point|."""
    total = (0, 1)
    for point, part in rows:
        total = plus(total, size_of(times(part, value_in(parts, point))))
    return total


def planted_poly(case):
    """The Poly that the function of a case is; None if it is none, or has a tail."""
    if case.rest[0] != 0:
        return None
    polys = []
    for top, bottom, _, _ in case.parts:
        quotient, rest = divided(top, bottom)
        if rest.degree() >= 0:
            return None
        polys.append(quotient)
    return polys[0] if all([poly == polys[0] for poly in polys]) else None


def free_rows(hunt):
    """The rows of a bar that is made of points and powers alone."""
    return any_rows(hunt.grid_points(), hunt.powers)


def is_close(hunt, number, bits):
    """Whether the greatest error that a hunt has seen is close to a number of its bar, for a gap."""
    return not lower((1, 2 << bits), minus(hunt.seen, number))


def safe_error(hunt, bits):
    """A short ratio that is above the greatest error that a hunt has seen, by less than half of a gap."""
    more = bits + SMALL_BITS
    top, bottom = plus(hunt.seen, (1, 4 << bits))
    return lowest(-((-top << more) // bottom), 1 << more)


def closed_in(case, hunt, bits):
    """A row (poly, number, e, papers): the polynomial of a hunt, the number of its bar, and Papers for an error e.

    The error is above the number by at most the gap. If shares have no error below 1, papers are None.
    """
    while True:
        hunt.go_on()
        number = case.worth(hunt.rows)
        if isinstance(case, ShareCase) and not lower((1, 1 << bits), minus(1, number)):
            return None, number, (1, 1), None
        if is_close(hunt, number, bits):
            e = safe_error(hunt, bits)
            papers, _, point = papers_for(case.margins(hunt.poly, e), case.terms)
            if papers is not None:
                return hunt.poly, number, e, papers
            hunt.put_or_refine(point)
