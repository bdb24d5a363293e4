"""Quotients of polynomials: which errors are possible on points, and how far they are from functions on intervals."""

from nearcurves.checks import held, is_judged_ratio, is_whole_within, need_bits, need_ratio_from_zero
from nearcurves.errors import BadNumber, Pole
from nearcurves.errors_of import (
    Beyond, Near, Within, are_splits, have_terms, judged_papers, need_target, one_paper, papers_for,
)
from nearcurves.functions import Mixed, is_endless, need_narrow
from nearcurves.pointfits import nearest
from nearcurves.polys import Poly
from nearcurves.ratios import lower, lowest, minus, plus, share, times, told
from nearcurves.shares import fit_or_shares
from nearcurves.signs import count_zeros
from nearcurves.targets import parts_on, size_of, tail_of, terms_within

MOST_DEGREE = 12
MOST_FRONTIER = 4


class Fit:
    """A top and a bottom that fit, with an error that is small enough."""

    def __init__(self, top, bottom):
        self.top = held(top)
        self.bottom = held(bottom)


class Bars:
    """Shares that show that an error is not possible."""

    def __init__(self, shares):
        self.shares = held(shares)


class Possible:
    """The least multiple of a gap that is possible, a Fit for it, and Bars for the multiple ahead of it."""

    def __init__(self, number, fit, bars):
        self.number = held(number)
        self.fit = held(fit)
        self.bars = held(bars)


def need_degrees(m, n):
    """The errors of the degrees of top and bottom."""
    if not is_whole_within(m, 0, MOST_DEGREE):
        raise BadNumber("top", m)
    if not is_whole_within(n, 0, MOST_DEGREE):
        raise BadNumber("bottom", n)


def error_on(points, top, bottom):
    """The error of a quotient on points."""
    greatest = (0, 1)
    for point, number, weight in zip(points.points, points.numbers, points.weights):
        below = bottom.at(point)
        if below[0] <= 0:
            raise Pole()
        error = times(weight, size_of(minus(number, share(top.at(point), below))))
        if lower(greatest, error):
            greatest = error
    return greatest


def possible(points, m, n, e):
    """Whether an error is possible for degrees of top and bottom: a Fit, or Bars."""
    need_degrees(m, n)
    need_ratio_from_zero(e, "e")
    return answer_for(points, m, n, told(e, "e"))


def answer_for(points, m, n, e):
    """The Fit or the Bars for an error."""
    top, bottom, shares = fit_or_shares(points, m, n, e)
    return Fit(top, bottom) if shares is None else Bars(shares)


def is_fit(points, m, n, e, answer):
    """Whether any value is a Fit for an error."""
    need_degrees(m, n)
    need_ratio_from_zero(e, "e")
    if not isinstance(answer, Fit) or not isinstance(answer.top, Poly) or not isinstance(answer.bottom, Poly):
        return False
    if answer.top.degree() > m or answer.bottom.degree() > n:
        return False
    if any([lower(answer.bottom.at(point), 1) for point in points.points]):
        return False
    return not lower(e, error_on(points, answer.top, answer.bottom))


def is_bars(points, m, n, e, answer):
    """Whether any value is Bars for an error."""
    need_degrees(m, n)
    need_ratio_from_zero(e, "e")
    if not isinstance(answer, Bars) or not isinstance(answer.shares, tuple):
        return False
    if len(answer.shares) != len(points.points) or not all([is_share_row(row) for row in answer.shares]):
        return False
    if not lower(0, sum_of([row[2] for row in answer.shares])):
        return False
    tops, bottoms = [], []
    for number, weight, row in zip(points.numbers, points.weights, answer.shares):
        tops.append(times(weight, minus(row[0], row[1])))
        loaded = times(weight, number)
        sides = plus(times(row[0], minus(e, loaded)), times(row[1], plus(e, loaded)))
        bottoms.append(plus(sides, row[2]))
    return are_moments_zero(points, tops, m) and are_moments_zero(points, bottoms, n)


def is_share_row(value):
    """Whether any value is a tuple of three ratios from 0 on."""
    if not isinstance(value, tuple) or len(value) != 3:
        return False
    return all([is_judged_ratio(item) and not lower(item, 0) for item in value])


def sum_of(ratios):
    """The sum of some ratios."""
    total = (0, 1)
    for ratio in ratios:
        total = plus(total, ratio)
    return total


def are_moments_zero(points, ratios, most):
    """Whether the sums of all ratio * point ** j are 0 for j from 0 to the most."""
    terms = list(ratios)
    for _ in range(most + 1):
        if sum_of(terms)[0] != 0:
            return False
        terms = [times(term, point) for term, point in zip(terms, points.points)]
    return True


def least_possible(points, m, n, bits):
    """The least multiple of a gap that is possible, as Possible."""
    need_degrees(m, n)
    need_bits(bits)
    # Quotients with the bottom 1 are polynomials; so their least error is possible.
    found = nearest(points, tuple(range(m + 1)))
    fit = Fit(found.poly, Poly((1,)))
    most = ceiling(found.error, bits)
    least, bars = -1, None
    while most - least > 1:
        middle = (least + most) // 2
        answer = answer_for(points, m, n, lowest(middle, 1 << bits))
        if isinstance(answer, Fit):
            fit = answer
            most = min(middle, ceiling(error_on(points, fit.top, fit.bottom), bits))
        else:
            least, bars = middle, answer
    return Possible(lowest(most, 1 << bits), fit, bars)


def ceiling(ratio, bits):
    """The least integer k such that k / 2 ** bits is not below a ratio."""
    return -((-ratio[0] << bits) // ratio[1])


def frontier(points, most, e):
    """Rows (m, n): the least n for each m with which an error is possible, None if there is none."""
    if not is_whole_within(most, 0, MOST_FRONTIER):
        raise BadNumber("most", most)
    need_ratio_from_zero(e, "e")
    rows = []
    # What is possible, is so for greater degrees; so n never grows with m.
    least = most + 1
    for m in range(most + 1):
        while least > 0 and isinstance(answer_for(points, m, least - 1, told(e, "e")), Fit):
            least = least - 1
        rows.append((m, least if least <= most else None))
    return tuple(rows)


def need_quotient(bottom, function, low, high):
    """The errors of an interval and of poles."""
    need_target(function, low, high)
    if bottom.degree() < 0 or count_zeros(bottom, low, high) > 0:
        raise Pole()


def above_zero(top, bottom, low):
    """Top and bottom, or their negatives if the bottom is below 0 on an interval."""
    return (-top, -bottom) if lower(bottom.at(low), 0) else (top, bottom)


def quotient_margins(top, bottom, parts, e):
    """Rows (above, under, low, high): the error is at most e on a part if both are nowhere below 0 there."""
    rows = []
    for part_top, part_bottom, low, high in parts:
        room = part_bottom * bottom * e
        difference = part_top * bottom - top * part_bottom
        rows.append((room - difference, room + difference, low, high))
    return rows


def quotient_within(top, bottom, function, low, high, e, bits):
    """Whether the error of a quotient is at most e at all points: Within, Beyond or Near."""
    need_quotient(bottom, function, low, high)
    need_ratio_from_zero(e, "e")
    need_bits(bits)
    terms = terms_within(function, low, high, (1, 1 << bits))
    rest = tail_of(function, low, high, terms)
    parts = parts_on(function, low, high, terms)
    up, down = above_zero(top, bottom, low)
    papers, index, point = papers_for(quotient_margins(up, down, parts, minus(e, rest)), terms)
    if papers is not None:
        return Within(one_paper(papers, function))
    if is_endless(function):
        papers, index, point = papers_for(quotient_margins(up, down, parts, plus(e, rest)), terms)
        if papers is not None:
            return Near(terms, times(2, rest))
    part_top, part_bottom = parts[index][:2]
    middle = share(part_top.at(point), part_bottom.at(point))
    error = size_of(minus(middle, share(up.at(point), down.at(point))))
    return Beyond(point, minus(error, rest))


def shows_quotient(paper, top, bottom, function, low, high, e):
    """Whether any value is a paper that the error of a quotient is at most e at all points."""
    need_quotient(bottom, function, low, high)
    need_ratio_from_zero(e, "e")
    need_narrow(function, low, high)
    papers = judged_papers(paper, function)
    if papers is None or not have_terms(papers, function):
        return False
    terms = papers[0].terms if isinstance(function, Mixed) else 0
    rest = tail_of(function, low, high, terms)
    if rest is None:
        return False
    up, down = above_zero(top, bottom, low)
    return are_splits(papers, quotient_margins(up, down, parts_on(function, low, high, terms), minus(e, rest)))
