"""The nearest polynomial on an interval."""

from nearcurves.aiming import (
    ErrorCase, ShareCase, closed_in, free_rows, is_close, planted_poly, rows_size, rows_sum, safe_error,
)
from nearcurves.checks import (
    held, is_ascending, is_judged_ratio, is_whole_from, is_whole_within, need_bits, need_interval, need_ratio_from_zero,
)
from nearcurves.errors import BadNumber, Pole
from nearcurves.errors_of import one_paper, papers_for, shows, shows_share
from nearcurves.functions import Mixed, need_narrow
from nearcurves.pointfits import is_of_powers, need_powers, power_sums
from nearcurves.polys import Poly
from nearcurves.ratios import lower, minus, plus, share, times, told
from nearcurves.rows import power_of
from nearcurves.targets import need_interval_of, need_no_pole, parts_on, sign_of_parts, size_of, tail_of

MOST_DEGREE = 12


class Bar:
    """Points with shares that show that no polynomial of some powers has an error below the number of the bar."""

    def __init__(self, terms, rows):
        self.terms = held(terms)
        self.rows = held(rows)


class Enclosed:
    """The least error lies between least, the number of the bar, and most, which the paper shows for the poly."""

    def __init__(self, poly, least, most, bar, paper):
        self.poly = held(poly)
        self.least = held(least)
        self.most = held(most)
        self.bar = held(bar)
        self.paper = held(paper)


class Nearer:
    """The nearest polynomial of one degree less, and its error."""

    def __init__(self, poly, error):
        self.poly = held(poly)
        self.error = held(error)


class LeastDegree:
    """The least degree that will do, a polynomial with its paper, and a bar for the degree less 1."""

    def __init__(self, degree, poly, paper, bar):
        self.degree = held(degree)
        self.poly = held(poly)
        self.paper = held(paper)
        self.bar = held(bar)


class NoDegree:
    """The answer that no degree will do, as the bar shows."""

    def __init__(self, bar):
        self.bar = held(bar)


class Unsure:
    """The answer that the least error of a degree is too near to tell; lower ones are barred."""

    def __init__(self, degree, bar):
        self.degree = held(degree)
        self.bar = held(bar)


def need_hunted(function, powers, low, high):
    """The errors of an interval, of powers and of the poles of a function."""
    need_interval_of(function, low, high)
    need_powers(powers)
    need_no_pole(function, low, high)


def are_rows(value, powers, low, high):
    """Whether any value is such rows (point, share) as a bar has."""
    if not isinstance(value, tuple) or not all([is_row_of_bar(row) for row in value]):
        return False
    points = [point for point, _ in value]
    if not points or lower(points[0], low) or lower(high, points[-1]) or not is_ascending(points):
        return False
    total = (0, 1)
    for _, part in value:
        total = plus(total, size_of(told(part, "share")))
    return total == (1, 1) and all([top == 0 for top, _ in power_sums(value, powers)])


def is_row_of_bar(value):
    """Whether any value is a pair of a ratio and a ratio other than 0."""
    if not isinstance(value, tuple) or len(value) != 2 or not all([is_judged_ratio(item) for item in value]):
        return False
    return told(value[1], "share")[0] != 0


def bar_parts(function, powers, low, high, bar):
    """The tail and the parts of a function for a bar; None for any value that is none."""
    need_hunted(function, powers, low, high)
    need_narrow(function, low, high)
    if not isinstance(bar, Bar) or not is_whole_from(bar.terms, 0) or not are_rows(bar.rows, powers, low, high):
        return None
    if bar.terms != 0 and not isinstance(function, Mixed):
        return None
    rest = tail_of(function, low, high, bar.terms)
    return None if rest is None else (rest, parts_on(function, low, high, bar.terms))


def bar_number(function, powers, low, high, bar):
    """The number of a bar; None for any value that is none."""
    found = bar_parts(function, powers, low, high, bar)
    if found is None:
        return None
    rest, parts = found
    return minus(rows_sum(bar.rows, parts), rest)


def bar_share(function, powers, low, high, bar):
    """The number of a bar for shares of the function; None for any value that is none."""
    found = bar_parts(function, powers, low, high, bar)
    if found is None:
        return None
    rest, parts = found
    if sign_of_parts(parts, rest) == 0:
        raise Pole()
    return share(minus(rows_sum(bar.rows, parts), rest), plus(rows_size(bar.rows, parts), rest))


def enclosed(function, powers, low, high, bits):
    """The least error of the powers, as an Enclosed."""
    need_hunted(function, powers, low, high)
    need_bits(bits)
    return enclosed_case(ErrorCase(function, low, high, bits), function, powers, bits)


def enclosed_share(function, powers, low, high, bits):
    """The least share of the powers, as an Enclosed."""
    need_hunted(function, powers, low, high)
    need_bits(bits)
    return enclosed_case(ShareCase(function, low, high, bits), function, powers, bits)


def enclosed_case(case, function, powers, bits):
    """The Enclosed of a case."""
    hunt = case.hunt(powers, bits)
    poly = planted_poly(case)
    if poly is not None and is_of_powers(poly, powers):
        rows = free_rows(hunt)
        e = (0, 1)
        number = case.worth(rows)
        papers = papers_for(case.margins(poly, e), case.terms)[0]
    else:
        poly, number, e, papers = closed_in(case, hunt, bits)
        rows = hunt.rows
    if papers is None:
        return Enclosed(Poly(()), number, e, bar_of(case, rows), None)
    return Enclosed(-poly if case.turned else poly, number, e, bar_of(case, rows), one_paper(papers, function))


def bar_of(case, rows):
    """The Bar of a case for the rows of its hunt."""
    if case.turned:
        rows = tuple([(point, minus(0, part)) for point, part in rows])
    return Bar(case.terms, rows)


def are_judged(answer, powers):
    """Whether any value is an Enclosed with a Poly of the powers and two ratios."""
    if not isinstance(answer, Enclosed) or not is_of_powers(answer.poly, powers):
        return False
    return is_judged_ratio(answer.least) and is_judged_ratio(answer.most)


def is_enclosed(function, powers, low, high, answer):
    """Whether any value is an Enclosed whose bar and paper show what it says."""
    need_hunted(function, powers, low, high)
    need_narrow(function, low, high)
    if not are_judged(answer, powers):
        return False
    if bar_number(function, powers, low, high, answer.bar) != told(answer.least, "least"):
        return False
    return shows(answer.paper, answer.poly, function, low, high, answer.most)


def is_enclosed_share(function, powers, low, high, answer):
    """Whether any value is an Enclosed for shares whose bar and paper show what it says."""
    need_hunted(function, powers, low, high)
    need_narrow(function, low, high)
    if not are_judged(answer, powers):
        return False
    most = told(answer.most, "most")
    try:
        if bar_share(function, powers, low, high, answer.bar) != told(answer.least, "least"):
            return False
        if answer.paper is None:
            return most == (1, 1) and answer.poly.degree() < 0
        if lower(most, 0) or not lower(most, 1):
            return False
        return shows_share(answer.paper, answer.poly, function, low, high, answer.most)
    except Pole:
        return False


def one_less(poly, low, high):
    """The nearest polynomial of a degree that is one less, as a Nearer."""
    need_interval(low, high)
    degree = poly.degree()
    if degree < 1:
        raise BadNumber("degree", degree)
    width = minus(high, low)
    # The polynomial T of the degree, at t = (2 x - low - high) / (high - low).
    wave = turning_poly(degree).moved(share(minus(0, plus(low, high)), width), share(2, width))
    size = times(times(2, poly.lead()), power_of(times(width, (1, 4)), degree))
    return Nearer(poly - wave * size, size_of(size))


def turning_poly(degree):
    """The polynomial T of a degree: T(0) is 1, T(1) is t, T(k + 1) is 2 * t * T(k) - T(k - 1)."""
    before, wave = Poly((0, 1)), Poly((1,))
    for _ in range(degree):
        before, wave = wave, Poly((0, 2)) * wave - before
    return wave


def least_degree(function, low, high, e, bits, most):
    """The least degree with a least error of at most e: a LeastDegree, a NoDegree or an Unsure."""
    need_interval_of(function, low, high)
    need_no_pole(function, low, high)
    need_ratio_from_zero(e, "e")
    need_bits(bits)
    if not is_whole_within(most, 0, MOST_DEGREE):
        raise BadNumber("most", most)
    case = ErrorCase(function, low, high, bits)
    planted = planted_poly(case)
    bar = None
    for degree in range(most + 1):
        if planted is not None and planted.degree() <= degree:
            papers = papers_for(case.margins(planted, e), case.terms)[0]
            return LeastDegree(degree, planted, one_paper(papers, function), bar)
        hunt, papers, barred = tried_degree(case, degree, e, bits)
        if papers is not None:
            return LeastDegree(degree, hunt.poly, one_paper(papers, function), bar)
        if not barred:
            return Unsure(degree, bar)
        bar = bar_of(case, hunt.rows)
    return NoDegree(bar)


def tried_degree(case, degree, e, bits):
    """A row (hunt, papers, barred): Papers for e, or that the bar's number is above e, or none if it is too near."""
    hunt = case.hunt(tuple(range(degree + 1)), bits)
    while True:
        hunt.go_on()
        number = case.worth(hunt.rows)
        if lower(e, number):
            return hunt, None, True
        if not lower(minus(e, case.rest), hunt.seen):
            papers, _, point = papers_for(case.margins(hunt.poly, e), case.terms)
            if papers is not None:
                return hunt, papers, False
            hunt.put_or_refine(point)
        elif is_close(hunt, number, bits):
            papers, _, point = papers_for(case.margins(hunt.poly, safe_error(hunt, bits)), case.terms)
            if papers is not None:
                return hunt, None, False
            hunt.put_or_refine(point)
