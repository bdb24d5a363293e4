"""Points in runs of neighbors, each with a polynomial of its own, and in pieces that are joined."""

from nearcurves.checks import held, is_ascending, is_judged_ratio, is_whole_from, is_whole_within, need_ratio_from_zero
from nearcurves.errors import BadNumber, BadRow, Fewer
from nearcurves.functions import Pieces
from nearcurves.joins import are_joined, joint_row, nearest_joined
from nearcurves.pointfits import Points, are_shares, nearest, size_sum, sum_of_products
from nearcurves.ratios import is_ratio_row, is_whole, lower, plus, times, told
from nearcurves.targets import size_of

MOST_DEGREE = 12
MOST_JOINED = 6


class Runs:
    """A division into the fewest runs: their ends, a polynomial for each, and a bar for each but the last."""

    def __init__(self, ends, polys, bars):
        self.ends = held(ends)
        self.polys = held(polys)
        self.bars = held(bars)


class BestRuns:
    """The least error of so many runs, their ends and polynomials, and a chain of runs that shows it."""

    def __init__(self, error, ends, polys, chain):
        self.error = held(error)
        self.ends = held(ends)
        self.polys = held(polys)
        self.chain = held(chain)


class Joined:
    """Joined pieces, their error, and shares that show that none have a lesser one."""

    def __init__(self, pieces, error, shares):
        self.pieces = held(pieces)
        self.error = held(error)
        self.shares = held(shares)


class Errors:
    """The nearest polynomials of a degree on runs of points; each run is looked at once."""

    def __init__(self, points, degree):
        self.points = points
        self.many = len(points.points)
        self.powers = tuple(range(degree + 1))
        self.known = {}

    def found(self, first, last):
        """The Nearest of a run."""
        if (first, last) not in self.known:
            self.known[first, last] = nearest(part_of(self.points, first, last), self.powers)
        return self.known[first, last]

    def error_of_run(self, first, last):
        """The error of a run."""
        if last - first <= len(self.powers):
            return (0, 1)
        return self.found(first, last).error

    def is_within(self, first, last, e, strict):
        """Whether the error of a run is at most e, or, where this is strict, below e."""
        error = self.error_of_run(first, last)
        return lower(error, e) if strict else not lower(e, error)

    def longest(self, first, e, strict):
        """The end of the longest run from a point whose error is within e; the point itself if there is none."""
        least, most = first, self.many
        # Errors grow with the runs; so halves tell.
        while least < most:
            last = (least + most + 1) // 2
            if self.is_within(first, last, e, strict):
                least = last
            else:
                most = last - 1
        return least

    def ends_for(self, e):
        """The ends of the division in which each run is as long as e lets it be."""
        found = [self.longest(0, e, False)]
        while found[-1] < self.many:
            found.append(self.longest(found[-1], e, False))
        return tuple(found)

    def is_enough(self, e, many):
        """Whether so many runs will do for e."""
        first = 0
        for _ in range(many):
            first = self.longest(first, e, False)
            if first == self.many:
                return True
        return False

    def least_error(self, many):
        """The least error for which so many runs will do.

        If the first run with an error that will do ends at a point, the runs for a lesser one end just ahead of it; so
        the errors of these runs, one for each start, are all that the least one can be.
        """
        if many >= self.many or self.is_enough((0, 1), many):
            return (0, 1)
        best = None
        first = 0
        for _ in range(many):
            last = self.first_enough(first, many)
            if last is None:
                return best
            error = self.error_of_run(first, last)
            if best is None or lower(error, best):
                best = error
            first = last - 1
        return best

    def first_enough(self, first, many):
        """The end of the shortest run from a point whose error will do for so many runs; None if there is none."""
        least, most = first + 1, self.many
        if not self.is_enough(self.error_of_run(first, most), many):
            return None
        while least < most:
            last = (least + most) // 2
            if self.is_enough(self.error_of_run(first, last), many):
                most = last
            else:
                least = last + 1
        return least

    def chain_for(self, e, many):
        """So many runs with an error of at least e, each beginning at the last point of the one ahead."""
        found = []
        first = 0
        for _ in range(many):
            last = self.longest(first, e, True)
            found.append((first, last + 1))
            first = last
        return tuple(found)

    def polys_for(self, ends):
        """The nearest polynomials of all runs of a division."""
        return tuple([self.found(first, last).poly for first, last in zip((0, *ends), ends)])


def part_of(points, first, last):
    """The Points of a run."""
    return Points(points.points[first:last], points.numbers[first:last], points.weights[first:last])


def need_degree(degree, least, most):
    """BadNumber for what is no degree."""
    if not is_whole_within(degree, least, most):
        raise BadNumber("degree", degree)


def is_run(value, many):
    """Whether any value is a run of so many points."""
    if not isinstance(value, (tuple, list)) or len(value) != 2 or not all([is_whole(item) for item in value]):
        return False
    return 0 <= value[0] < value[1] <= many


def run_error(points, degree, run):
    """The error of a run."""
    need_degree(degree, 0, MOST_DEGREE)
    if not is_run(run, len(points.points)):
        raise BadRow(run)
    return Errors(points, degree).error_of_run(run[0], run[1])


def fewest_runs(points, degree, e):
    """A division into as few runs as possible, as Runs; the first one as long as possible, then the second one."""
    need_degree(degree, 0, MOST_DEGREE)
    need_ratio_from_zero(e, "e")
    errors = Errors(points, degree)
    ends = errors.ends_for(e)
    bars = [errors.found(first, last + 1).bar for first, last in zip((0, *ends), ends[:-1])]
    return Runs(ends, errors.polys_for(ends), bars)


def best_runs(points, degree, many):
    """The least error of so many runs, as BestRuns."""
    need_degree(degree, 0, MOST_DEGREE)
    if not is_whole_from(many, 1):
        raise BadNumber("many", many)
    errors = Errors(points, degree)
    error = errors.least_error(many)
    ends = errors.ends_for(error)
    chain = () if error[0] == 0 else errors.chain_for(error, many)
    return BestRuns(error, ends, errors.polys_for(ends), chain)


def error_steps(points, degree):
    """Pairs (many, error): from so many runs on, the least error is this one."""
    need_degree(degree, 0, MOST_DEGREE)
    errors = Errors(points, degree)
    steps = [(1, errors.least_error(1))]
    many = 1
    while steps[-1][1][0] != 0:
        many = many + 1
        error = errors.least_error(many)
        if error != steps[-1][1]:
            steps.append((many, error))
    return tuple(steps)


def need_joined(points, breaks, degree, smooth):
    """The errors of what asks for joined pieces."""
    need_degree(degree, 1, MOST_JOINED)
    if not is_whole_within(smooth, 0, degree - 1):
        raise BadNumber("smooth", smooth)
    if not is_ratio_row(breaks) or not is_ascending([points.points[0], *breaks]):
        raise BadRow(breaks)
    if len(breaks) > 0 and not lower(breaks[-1], points.points[-1]):
        raise BadRow(breaks)
    if len(points.points) < 2:
        raise Fewer("points")


def joined(points, breaks, degree, smooth):
    """The nearest joined pieces, as Joined."""
    need_joined(points, breaks, degree, smooth)
    ends = [told(item, "break") for item in breaks]
    polys, error, shares = nearest_joined(points, ends, degree, smooth)
    return Joined(Pieces([points.points[0], *ends, points.points[-1]], polys), error, shares)


def is_joined(points, breaks, degree, smooth, answer):
    """Whether any value is what joined tells."""
    need_joined(points, breaks, degree, smooth)
    if not isinstance(answer, Joined) or not isinstance(answer.pieces, Pieces) or not is_judged_ratio(answer.error):
        return False
    ends = [told(item, "break") for item in breaks]
    if answer.pieces.knots != (points.points[0], *ends, points.points[-1]):
        return False
    if not are_joined(answer.pieces, degree, smooth):
        return False
    error = told(answer.error, "error")
    if error != pieces_error(points, answer.pieces) or not are_shares(answer.shares, len(points.points)):
        return False
    if lower(1, size_sum(answer.shares, points)) or sum_of_products(answer.shares, points.numbers) != error:
        return False
    return are_free(points, ends, degree, smooth, answer.shares)


def are_free(points, ends, degree, smooth, shares):
    """Whether for all joined pieces the sum of all share * value is 0."""
    rows = [joint_row(points.points[index], ends, degree, smooth) for index, _ in shares]
    for place in range(degree + 1 + len(ends) * (degree - smooth)):
        total = (0, 1)
        for (_, part), (heights, factor) in zip(shares, rows):
            total = plus(total, times(part, (heights[place], factor)))
        if total[0] != 0:
            return False
    return True


def pieces_error(points, pieces):
    """The error of Pieces on Points."""
    greatest = (0, 1)
    place = 0
    for point, number, weight in zip(points.points, points.numbers, points.weights):
        while lower(pieces.knots[place + 1], point):
            place = place + 1
        top, bottom = number
        error = times(weight, size_of(plus(pieces.polys[place].at(point), (-top, bottom))))
        if lower(greatest, error):
            greatest = error
    return greatest
