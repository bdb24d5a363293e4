"""Functions in as few pieces as an error needs, cut at knots."""

from nearcurves.aiming import ErrorCase, planted_poly
from nearcurves.checks import held, is_ascending, is_whole_within, need_bits
from nearcurves.errors import BadNumber, BadRow
from nearcurves.errors_of import one_paper, papers_for, shows
from nearcurves.functions import need_narrow
from nearcurves.intervalfits import bar_number, bar_of
from nearcurves.polys import Poly
from nearcurves.ratios import is_ratio, is_ratio_row, lower, minus, told
from nearcurves.targets import need_interval_of, need_no_pole

MOST_DEGREE = 12


class Cuts:
    """A function in pieces: breaks at knots, a polynomial and a paper for each piece, a bar for each but the last."""

    def __init__(self, breaks, polys, papers, bars):
        self.breaks = held(breaks)
        self.polys = held(polys)
        self.papers = held(papers)
        self.bars = held(bars)


class BarredPiece:
    """The answer that no polynomial will do from the knot with an index to the next one, as the bar shows."""

    def __init__(self, index, bar):
        self.index = held(index)
        self.bar = held(bar)


def need_cuts(function, degree, e, knots, bits):
    """The errors of what asks for pieces."""
    if not is_whole_within(degree, 0, MOST_DEGREE):
        raise BadNumber("degree", degree)
    if not is_ratio(e) or not lower(0, e):
        raise BadNumber("e", e)
    if not is_ratio_row(knots) or len(knots) < 2 or not is_ascending(knots):
        raise BadRow(knots)
    need_bits(bits)
    low, high = told(knots[0], "knot"), told(knots[-1], "knot")
    need_interval_of(function, low, high)
    need_no_pole(function, low, high)
    need_narrow(function, low, high)


def least_pieces(function, degree, e, knots, bits):
    """As few pieces as may be for an error, as Cuts; a BarredPiece if there are none."""
    need_cuts(function, degree, e, knots, bits)
    ends = [told(knot, "knot") for knot in knots]
    breaks = [0]
    polys, papers, bars = [], [], []
    while breaks[-1] < len(ends) - 1:
        first = last = breaks[-1]
        found, bar = None, None
        while bar is None and last < len(ends) - 1:
            poly, paper, bar = tried_piece(function, degree, e, ends[first], ends[last + 1], bits)
            if bar is None:
                found = (poly, paper)
                last = last + 1
        if found is None:
            return BarredPiece(first, bar)
        breaks.append(last)
        polys.append(found[0])
        papers.append(found[1])
        if bar is not None:
            bars.append(bar)
    return Cuts(breaks, polys, papers, bars)


def tried_piece(function, degree, e, low, high, bits):
    """A triple (poly, paper, bar): a Poly with its paper for e, or a Bar whose number is above e less the gap."""
    case = ErrorCase(function, low, high, bits)
    planted = planted_poly(case)
    if planted is not None and planted.degree() <= degree:
        return planted, one_paper(papers_for(case.margins(planted, e), case.terms)[0], function), None
    hunt = case.hunt(tuple(range(degree + 1)), bits)
    least = minus(e, (1, 1 << bits))
    while True:
        hunt.go_on()
        if not lower(minus(e, case.rest), hunt.seen):
            papers, _, point = papers_for(case.margins(hunt.poly, e), case.terms)
            if papers is not None:
                return hunt.poly, one_paper(papers, function), None
            hunt.put_or_refine(point)
        elif lower(least, case.worth(hunt.rows)):
            return None, None, bar_of(case, hunt.rows)


def are_cuts(function, degree, e, knots, bits, answer):
    """Whether any value is what least_pieces tells."""
    need_cuts(function, degree, e, knots, bits)
    if isinstance(answer, BarredPiece):
        if not is_whole_within(answer.index, 0, len(knots) - 2):
            return False
        return bars_out(function, degree, e, knots, bits, (answer.index, answer.index + 1), answer.bar)
    if not isinstance(answer, Cuts) or not are_breaks(answer.breaks, len(knots) - 1):
        return False
    many = len(answer.breaks) - 1
    rows = ((answer.polys, many), (answer.papers, many), (answer.bars, many - 1))
    if not all([isinstance(row, tuple) and len(row) == size for row, size in rows]):
        return False
    pieces = list(zip(answer.breaks, answer.breaks[1:]))
    for (first, last), poly, paper in zip(pieces, answer.polys, answer.papers):
        if not isinstance(poly, Poly) or poly.degree() > degree:
            return False
        if not shows(paper, poly, function, knots[first], knots[last], e):
            return False
    for (first, last), bar in zip(pieces, answer.bars):
        if not bars_out(function, degree, e, knots, bits, (first, last + 1), bar):
            return False
    return True


def are_breaks(value, last):
    """Whether any value is a tuple of ascending integers from 0 to the last one."""
    if not isinstance(value, tuple) or len(value) < 2 or not all([is_whole_within(item, 0, last) for item in value]):
        return False
    if value[0] != 0 or value[-1] != last:
        return False
    return all([one < other for one, other in zip(value, value[1:])])


def bars_out(function, degree, e, knots, bits, piece, bar):
    """Whether any value is a Bar between two knots whose number is above e less the gap."""
    first, last = piece
    number = bar_number(function, tuple(range(degree + 1)), knots[first], knots[last], bar)
    return number is not None and lower(minus(e, (1, 1 << bits)), number)
