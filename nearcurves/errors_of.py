"""How far a polynomial is from a function."""

from nearcurves.checks import held, is_whole_from, need_bits, need_ratio_from_zero
from nearcurves.errors import BadNumber, Pole
from nearcurves.functions import Mixed, Pieces, is_endless, need_narrow
from nearcurves.leasts import least_multiple
from nearcurves.ratios import is_ratio, lower, lowest, minus, plus, times
from nearcurves.signs import Below, is_split, never_below
from nearcurves.targets import (
    error_at, least_share_at, need_interval_of, need_no_pole, parts_on, plain_margins, share_margins, sign_of_parts,
    signed_parts, tail_of, terms_within, turned_parts,
)


class Paper:
    """Shows by two Splits that an error is at most a ratio at all points of an interval."""

    def __init__(self, terms, above, under):
        self.terms = held(terms)
        self.above = held(above)
        self.under = held(under)


class Within:
    """The answer that an error is at most a ratio at all points, as the paper shows."""

    def __init__(self, paper):
        self.paper = held(paper)


class Beyond:
    """The answer that the error at a point is at least this one, which is too great."""

    def __init__(self, point, error):
        self.point = held(point)
        self.error = held(error)


class Near:
    """The answer that the greatest error is so near to a ratio that these terms do not tell on which side it is."""

    def __init__(self, terms, slack):
        self.terms = held(terms)
        self.slack = held(slack)


class Greatest:
    """The greatest error lies between two ratios: the error at the point is at least least, all are at most most."""

    def __init__(self, least, most, point, paper):
        self.least = held(least)
        self.most = held(most)
        self.point = held(point)
        self.paper = held(paper)


def need_target(function, low, high):
    """The errors of an interval and of the poles of a function."""
    need_interval_of(function, low, high)
    need_no_pole(function, low, high)


def need_share(e):
    """BadNumber for what is no ratio from 0 on and below 1."""
    need_ratio_from_zero(e, "e")
    if not lower(e, 1):
        raise BadNumber("e", e)


def judged_papers(paper, function):
    """The Papers that any value has for the parts of a function, as a list; None if it is no such value."""
    if not isinstance(function, Pieces):
        return [paper] if isinstance(paper, Paper) else None
    if not isinstance(paper, tuple) or not all([isinstance(item, Paper) for item in paper]):
        return None
    return list(paper)


def have_terms(papers, function):
    """Whether the terms of some Papers are such as a function has."""
    if isinstance(function, Mixed):
        return is_whole_from(papers[0].terms, 0)
    return all([is_whole_from(paper.terms, 0) and paper.terms == 0 for paper in papers])


def are_splits(papers, margins):
    """Whether Papers have Splits of all margins."""
    if len(papers) != len(margins):
        return False
    for paper, (above, under, low, high) in zip(papers, margins):
        if not is_split(above, low, high, paper.above) or not is_split(under, low, high, paper.under):
            return False
    return True


def papers_for(margins, terms):
    """A triple (papers, index, point) for some margins.

    It tells a list of Papers; or None, the index of margins of which one is below 0, and a point at which it is.
    """
    papers = []
    for index, (above, under, low, high) in enumerate(margins):
        splits = []
        for margin in (above, under):
            answer = never_below(margin, low, high)
            if isinstance(answer, Below):
                return None, index, answer.point
            splits.append(answer)
        papers.append(Paper(terms, splits[0], splits[1]))
    return papers, None, None


def one_paper(papers, function):
    """Some Papers as they are told for a function."""
    return tuple(papers) if isinstance(function, Pieces) else papers[0]


def shows(paper, poly, function, low, high, e):
    """Whether any value is a paper that the error is at most e at all points."""
    need_target(function, low, high)
    if not is_ratio(e):
        raise BadNumber("e", e)
    need_narrow(function, low, high)
    papers = judged_papers(paper, function)
    if papers is None or not have_terms(papers, function):
        return False
    terms = papers[0].terms if isinstance(function, Mixed) else 0
    rest = tail_of(function, low, high, terms)
    if rest is None:
        return False
    return are_splits(papers, plain_margins(poly, parts_on(function, low, high, terms), minus(e, rest)))


def within(poly, function, low, high, e, bits):
    """Whether the error is at most e at all points: Within, Beyond or Near."""
    need_target(function, low, high)
    need_ratio_from_zero(e, "e")
    need_bits(bits)
    terms = terms_within(function, low, high, (1, 1 << bits))
    rest = tail_of(function, low, high, terms)
    parts = parts_on(function, low, high, terms)
    papers, index, point = papers_for(plain_margins(poly, parts, minus(e, rest)), terms)
    if papers is not None:
        return Within(one_paper(papers, function))
    if is_endless(function):
        papers, index, point = papers_for(plain_margins(poly, parts, plus(e, rest)), terms)
        if papers is not None:
            return Near(terms, times(2, rest))
    return Beyond(point, minus(error_at(poly, parts[index], point), rest))


def enclosed_error(poly, function, low, high, bits):
    """The greatest error, as a Greatest."""
    need_target(function, low, high)
    need_bits(bits)
    # The tail is taken twice, the gap of the least multiple once, so that all are at most the told gap.
    finer = bits + 2 if is_endless(function) else bits
    terms = terms_within(function, low, high, (1, 1 << finer))
    rest = tail_of(function, low, high, terms)
    parts = parts_on(function, low, high, terms)
    e, papers, index, point = greatest_multiple(poly, parts, terms, finer)
    least = minus(error_at(poly, parts[index], point), rest)
    if lower(least, 0):
        least = (0, 1)
    return Greatest(least, plus(e, rest), point, one_paper(papers, function))


def greatest_multiple(poly, parts, terms, bits):
    """A multiple of the gap that no error from the parts is above, Papers of it, and where one is nearly so great."""
    starts = []
    for top, bottom, low, high in parts:
        difference = poly * bottom - top
        starts.append((difference, bottom, low, high))
        starts.append((-difference, bottom, low, high))
    many, start, point = least_multiple(starts, bits)
    e = lowest(-many, 1 << bits)
    papers, index, other = papers_for(plain_margins(poly, parts, e), terms)
    if papers is not None:
        return e, papers, start // 2, point
    # The greatest error is just above this multiple, so close that the next one does.
    e = lowest(1 - many, 1 << bits)
    return e, papers_for(plain_margins(poly, parts, e), terms)[0], index, other


def within_share(poly, function, low, high, e, bits):
    """Whether the error is at most e * |f| at all points: Within, Beyond or Near."""
    need_target(function, low, high)
    need_share(e)
    need_bits(bits)
    terms, rest, sign, parts = signed_parts(function, low, high, bits)
    signed = poly if sign > 0 else -poly
    papers, index, point = papers_for(share_margins(signed, parts, e, rest), terms)
    if papers is not None:
        return Within(one_paper(papers, function))
    if is_endless(function):
        papers, index, point = papers_for(share_margins(signed, parts, e, minus(0, rest)), terms)
        if papers is not None:
            return Near(terms, times(2, rest))
    return Beyond(point, least_share_at(signed, parts[index], rest, point))


def shows_share(paper, poly, function, low, high, e):
    """Whether any value is a paper that the error is at most e * |f| at all points."""
    need_target(function, low, high)
    need_share(e)
    need_narrow(function, low, high)
    if isinstance(function, Pieces):
        if not isinstance(paper, tuple):
            return False
    elif not isinstance(paper, Paper):
        return False
    terms = 0
    if isinstance(function, Mixed):
        terms = paper.terms
        if not is_whole_from(terms, 0):
            return False
    rest = tail_of(function, low, high, terms)
    if rest is None:
        return False
    parts = parts_on(function, low, high, terms)
    sign = sign_of_parts(parts, rest)
    if sign == 0:
        raise Pole()
    papers = judged_papers(paper, function)
    if papers is None or not have_terms(papers, function):
        return False
    if sign < 0:
        return are_splits(papers, share_margins(-poly, turned_parts(parts), e, rest))
    return are_splits(papers, share_margins(poly, parts, e, rest))
