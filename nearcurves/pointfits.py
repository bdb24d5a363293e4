"""The nearest polynomial on points."""

from nearcurves.checks import held, is_ascending, is_judged_ratio, is_whole_within, need_ratio_from_zero
from nearcurves.errors import BadRow
from nearcurves.fits import greatest_sum, nearest_fit, raised
from nearcurves.polys import Poly, number_of, over_one_bottom
from nearcurves.ratios import is_ratio_row, lower, lowest, minus, plus, share, times, told
from nearcurves.wholecorners import value_at

MOST_POWER = 12


class Points:
    """Unlike points with a number and a weight each."""

    def __init__(self, points, numbers, weights=None):
        if not is_ratio_row(points) or len(points) == 0 or not is_ascending(points):
            raise BadRow(points)
        if not is_ratio_row(numbers) or len(numbers) != len(points):
            raise BadRow(numbers)
        if weights is None:
            self.weights = ((1, 1),) * len(points)
        elif is_ratio_row(weights) and len(weights) == len(points) and all([lower(0, item) for item in weights]):
            self.weights = told_row(weights)
        else:
            raise BadRow(weights)
        self.points = told_row(points)
        self.numbers = told_row(numbers)


class Nearest:
    """A polynomial with the least error, this error, and a bar that shows that there is no lesser one."""

    def __init__(self, poly, error, bar):
        self.poly = held(poly)
        self.error = held(error)
        self.bar = held(bar)


class Barred:
    """The answer that a bar leaves no polynomial."""

    def __init__(self, bar):
        self.bar = held(bar)


class Boundless:
    """The answer that all numbers are sums: a polynomial, and a way that changes its sum, but no value at a point."""

    def __init__(self, poly, way):
        self.poly = held(poly)
        self.way = held(way)


class Reach:
    """The least and the greatest sum, polynomials that have them, and ties that show that there are no others."""

    def __init__(self, least, most, low, high, low_tie, high_tie):
        self.least = held(least)
        self.most = held(most)
        self.low = held(low)
        self.high = held(high)
        self.low_tie = held(low_tie)
        self.high_tie = held(high_tie)


def told_row(ratios):
    """A tuple of ratios as they are told."""
    return tuple([told(ratio, "ratio") for ratio in ratios])


def are_powers(value):
    """Whether any value is a row of one or more ascending integers from 0 to 12."""
    if not isinstance(value, (tuple, list)) or len(value) == 0:
        return False
    if not all([is_whole_within(item, 0, MOST_POWER) for item in value]):
        return False
    return all([one < other for one, other in zip(value, value[1:])])


def need_powers(powers):
    """BadRow for what are no powers."""
    if not are_powers(powers):
        raise BadRow(powers)


def is_of_powers(value, powers):
    """Whether any value is a Poly whose numbers of all other powers are 0."""
    if not isinstance(value, Poly):
        return False
    return all([top == 0 or power in powers for power, (top, _) in enumerate(value.numbers)])


def error_of(points, poly):
    """The error of a Poly."""
    row, below = over_one_bottom(poly.numbers)
    greatest = (0, 1)
    for point, number, weight in zip(points.points, points.numbers, points.weights):
        # No lowest terms on the way: those of long ratios take long.
        scale = below * raised(point[1], len(row))
        difference = value_at(row, point[0], point[1]) * point[1] * number[1] - number[0] * scale
        error = (abs(difference) * weight[0], scale * number[1] * weight[1])
        if lower(greatest, error):
            greatest = error
    return lowest(greatest[0], greatest[1])


def are_shares(value, many):
    """Whether any value is a tuple of pairs (index, share), ascending, of as many points, and no share 0."""
    if not isinstance(value, tuple):
        return False
    last = -1
    for pair in value:
        if not isinstance(pair, tuple) or len(pair) != 2 or not is_whole_within(pair[0], last + 1, many - 1):
            return False
        if not is_judged_ratio(pair[1]) or told(pair[1], "share")[0] == 0:
            return False
        last = pair[0]
    return True


def sum_of_products(shares, ratios):
    """The sum of some ratios, each times the share of its index."""
    total = (0, 1)
    for index, part in shares:
        total = plus(total, times(part, ratios[index]))
    return total


def power_sums(pairs, powers):
    """For each of some powers, the sum of this power of all points, each times its share, for pairs (point, share)."""
    last = powers[-1]
    places = [told(point, "point") for point, _ in pairs]
    # Shares are mostly multiples of what the greatest power of the point is divided by.
    row, below = over_one_bottom([share(part, raised(place[1], last)) for (_, part), place in zip(pairs, places)])
    found = []
    for power in powers:
        terms = [raised(top, power) * raised(bottom, last - power) for top, bottom in places]
        found.append(lowest(sum([number * term for number, term in zip(row, terms)]), below))
    return found


def at_points(shares, points):
    """The pairs (point, share) of some pairs (index, share)."""
    return [(points.points[index], part) for index, part in shares]


def size_sum(shares, points):
    """The sum of all |share| / weight."""
    sizes = [(index, (abs(told(part, "share")[0]), told(part, "share")[1])) for index, part in shares]
    return sum_of_products(sizes, [(bottom, top) for top, bottom in points.weights])


def barred(points, powers, bar):
    """The number of a bar; None for any value that is none."""
    need_powers(powers)
    if not are_shares(bar, len(points.points)) or size_sum(bar, points) != (1, 1):
        return None
    if any([top != 0 for top, _ in power_sums(at_points(bar, points), powers)]):
        return None
    return sum_of_products(bar, points.numbers)


def nearest(points, powers):
    """A polynomial of the powers with the least error, as a Nearest."""
    need_powers(powers)
    poly, error, bar, _ = nearest_fit(points.points, points.numbers, points.weights, powers)
    return Nearest(poly, error, bar)


def is_nearest(points, powers, answer):
    """Whether any value is a Nearest that is right."""
    need_powers(powers)
    if not isinstance(answer, Nearest) or not is_judged_ratio(answer.error) or not is_of_powers(answer.poly, powers):
        return False
    error = told(answer.error, "error")
    if error != error_of(points, answer.poly):
        return False
    if error[0] == 0:
        return answer.bar == ()
    return barred(points, powers, answer.bar) == error


def need_reach(powers, row, e):
    """The errors of what asks for the reach."""
    need_powers(powers)
    if not is_ratio_row(row) or len(row) != len(powers):
        raise BadRow(row)
    need_ratio_from_zero(e, "e")


def row_sum(poly, powers, row):
    """The sum of a Poly of the powers for a row."""
    total = (0, 1)
    for power, item in zip(powers, row):
        total = plus(total, times(item, number_of(poly.numbers, power)))
    return total


def turned(row):
    """The row with all signs turned."""
    return [minus(0, item) for item in row]


def bound_of(points, powers, row, e, tie):
    """The bound of a tie for a row; None for any value that is none."""
    need_reach(powers, row, e)
    if not are_shares(tie, len(points.points)):
        return None
    if power_sums(at_points(tie, points), powers) != list(told_row(row)):
        return None
    return plus(sum_of_products(tie, points.numbers), times(e, size_sum(tie, points)))


def reach(points, powers, row, e):
    """All sums for a row that polynomials with an error of at most e have: a Barred, a Boundless or a Reach."""
    need_reach(powers, row, e)
    found = nearest(points, powers)
    if lower(e, found.error):
        return Barred(found.bar)
    items = told_row(row)
    if all([top == 0 for top, _ in items]):
        return Reach((0, 1), (0, 1), found.poly, found.poly, (), ())
    room = told(e, "e")
    high, high_tie, way = sum_end(points, powers, items, room)
    if way is not None:
        return Boundless(found.poly, way)
    low, low_tie, _ = sum_end(points, powers, turned(items), room)
    return Reach(row_sum(low, powers, items), row_sum(high, powers, items), low, high, low_tie, high_tie)


def sum_end(points, powers, row, e):
    """A triple (poly, tie, way) for the greatest sum for a row, as greatest_sum tells it."""
    return greatest_sum(points.points, points.numbers, points.weights, powers, row, e)


def is_reach(points, powers, row, e, answer):
    """Whether any value is the right answer of reach."""
    need_reach(powers, row, e)
    if isinstance(answer, Barred):
        number = barred(points, powers, answer.bar)
        return number is not None and lower(e, number)
    if isinstance(answer, Boundless):
        return is_boundless(points, powers, row, e, answer)
    if not isinstance(answer, Reach) or not is_judged_ratio(answer.least) or not is_judged_ratio(answer.most):
        return False
    if not is_end(points, powers, row, e, answer.most, answer.high, answer.high_tie):
        return False
    return is_end(points, powers, turned(row), e, minus(0, answer.least), answer.low, answer.low_tie)


def is_near(points, powers, e, value):
    """Whether any value is a Poly of the powers with an error of at most e."""
    return is_of_powers(value, powers) and not lower(e, error_of(points, value))


def is_boundless(points, powers, row, e, answer):
    """Whether a Boundless is right."""
    if not is_near(points, powers, e, answer.poly) or not is_of_powers(answer.way, powers):
        return False
    if row_sum(answer.way, powers, row)[0] == 0:
        return False
    return all([answer.way.at(point)[0] == 0 for point in points.points])


def is_end(points, powers, row, e, most, poly, tie):
    """Whether a polynomial has the greatest sum for a row, and a tie shows it."""
    if not is_near(points, powers, e, poly):
        return False
    greatest = told(most, "most")
    return row_sum(poly, powers, row) == greatest and bound_of(points, powers, row, e, tie) == greatest
