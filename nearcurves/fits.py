"""Polynomials of some powers that are near to numbers at points, and what bars better ones: by linear equations.

Points, numbers and weights are rows of ratios as pairs. Each point has two columns, for shares above 0 and for shares
below 0, which are multiplied by an integer so that all of them are integers.
"""

from math import gcd

from nearcurves.linear import System, are_amounts, choose, dot, greatest_prices
from nearcurves.polys import Poly, over_one_bottom
from nearcurves.ratios import lowest, plus

# Longer ratios are first taken in short, which tells, mostly, the columns that lead to the best.
SHORT_BITS = (64, 256)
LONG_BITS = 3000


def raised(number, many):
    """An integer multiplied by itself so many times."""
    product = 1
    for _ in range(many):
        product = product * number
    return product


def power_row_of(point, powers):
    """The integers point ** k * factor for some powers k, and the factor, an integer above 0."""
    top, bottom = point
    last = powers[-1]
    return [raised(top, power) * raised(bottom, last - power) for power in powers], raised(bottom, last)


def poly_of_powers(powers, numbers, bottom):
    """The Poly with these integers, divided by one above 0, for these powers."""
    row = [(0, 1)] * (powers[-1] + 1)
    for power, number in zip(powers, numbers):
        row[power] = (number, bottom)
    return Poly(row)


def shortened(ratio, bits):
    """A ratio near to another one that has about so many bits above and, but for zeros, below."""
    top, bottom = ratio
    shift = bits + bottom.bit_length() - abs(top).bit_length()
    if top == 0 or max(abs(top).bit_length(), bottom.bit_length()) <= bits:
        return ratio
    if shift < 0:
        return ((top // (bottom << -shift)) << -shift, 1)
    return lowest((top << shift) // bottom, 1 << shift)


class Heights:
    """Points with numbers and weights, and the rows of integers that stand for them."""

    def __init__(self, points, numbers, weights, powers):
        self.powers = powers
        self.heights = []
        self.numbers = []
        self.loads = []
        self.factors = []
        for point, number, weight in zip(points, numbers, weights):
            self.put(power_row_of(point, powers), number, weight)

    def put(self, row, number, weight):
        """Puts in a point: its powers, its number and 1 / weight, all times one and the same factor."""
        heights, factor = row
        common = number[1] * weight[0]
        heights = [height * common for height in heights]
        many = number[0] * weight[0] * factor
        load = weight[1] * number[1] * factor
        factor = factor * common
        shared = gcd(many, load, factor)
        for height in heights:
            shared = gcd(shared, height)
        self.heights.append([height // shared for height in heights])
        self.numbers.append(many // shared)
        self.loads.append(load // shared)
        self.factors.append((factor, shared))

    def told_shares(self, table, bottom):
        """The chosen amounts of a table, divided by an integer, as pairs (index, share), ascending, without zeros."""
        found = {}
        for index, amount in zip(table.chosen, table.weighed(table.right)):
            if amount != 0 and index is not None and index < 2 * len(self.factors):
                top, below = self.factors[index // 2]
                sign = 1 if index % 2 == 0 else -1
                found[index // 2] = lowest(sign * amount * top, table.below * bottom * below)
        return tuple([(place, found[place]) for place in sorted(found)])


def long_bits(points, numbers, weights, powers):
    """About how long the integers get that the equations of these points lead to."""
    most = 0
    for point, number, weight in zip(points, numbers, weights):
        sizes = [max(abs(ratio[0]), ratio[1]).bit_length() for ratio in (point, number, weight)]
        most = max(most, sizes[0] * powers[-1] + sizes[1] + sizes[2])
    return most * len(powers)


def nearest_fit(points, numbers, weights, powers, known=()):
    """A row (poly, error, bar, chosen): the nearest polynomial of the powers, its error, and a bar, () for the error 0.

    The columns that were chosen tell where to begin with further points: they may be told as known.
    """
    fit = Heights(points, numbers, weights, powers)
    if known:
        answer = fit_from(fit, known)
        if answer is not None:
            return answer
    if long_bits(points, numbers, weights, powers) > LONG_BITS:
        for bits in SHORT_BITS:
            rows = [[shortened(ratio, bits) for ratio in row] for row in (points, numbers, weights)]
            table, costs, scales = first_fit_table(Heights(rows[0], rows[1], rows[2], powers))
            greatest_prices(table, costs, scales)
            answer = fit_from(fit, table.chosen)
            if answer is not None:
                return answer
    return fit_from(fit, [])


def first_fit_table(fit):
    """A System, costs and scales: the sums of shares for all powers are 0, their sizes add up to 1 at most."""
    size = len(fit.powers)
    columns = []
    costs = []
    scales = []
    for heights, number, load in zip(fit.heights, fit.numbers, fit.loads):
        columns.append(heights + [load])
        columns.append([-height for height in heights] + [load])
        costs.extend([number, -number])
        scales.extend([load, load])
    # The last column is for what is left to 1.
    table = System(columns + [[0] * size + [1]], [0] * size + [1], list(zip(fit.heights, fit.loads)))
    table.chosen[size] = len(columns)
    return table, costs + [0], scales + [1]


def fit_from(fit, hint):
    """The answer of nearest_fit; None if the columns of the hint are no beginning for it."""
    table, costs, scales = first_fit_table(fit)
    choose(table, [index for index in hint if index is not None])
    if not are_amounts(table):
        return None
    prices = greatest_prices(table, costs, scales)
    poly = poly_of_powers(fit.powers, prices[:-1], table.below)
    error = lowest(prices[-1], table.below)
    return poly, error, (() if error[0] == 0 else fit.told_shares(table, 1)), table.chosen


class Tied:
    """The sums of a row that polynomials have which are near to some Heights, by linear equations for ties."""

    def __init__(self, fit, row, e):
        self.row = row
        self.pairs = list(zip(fit.heights, fit.loads))
        self.columns = []
        self.costs = []
        self.scales = []
        for heights, number, load in zip(fit.heights, fit.numbers, fit.loads):
            self.columns.extend([heights, [-height for height in heights]])
            self.costs.extend([-e[0] * load - e[1] * number, -e[0] * load + e[1] * number])
            self.scales.extend([load, load])

    def table(self, hint):
        """A System with the columns of a hint, then as many others as there can be, without amounts below 0."""
        table = System(self.columns, self.row, self.pairs)
        choose(table, [index for index in hint if index is not None])
        if None in table.chosen:
            choose(table, [index for index in table.chosen if index is not None] + first_ones(self.columns))
        for row, amount in enumerate(table.weighed(self.row)):
            if amount < 0 and table.chosen[row] is not None:
                table.turn(row, table.chosen[row] + 1 - 2 * (table.chosen[row] % 2))
        return table


def first_ones(columns):
    """The indices of the columns for shares above 0: first some that lie far from one another."""
    many = len(columns) // 2
    step = max(1, many // 8)
    return [2 * place for start in range(step) for place in range(start, many, step)]


def way_of(fit, table, row):
    """A Poly of the powers of some Heights that is 0 at all points, and whose sum for a row is not 0; None without one.

    The table is one of all columns that can be chosen.
    """
    for index, line in zip(table.chosen, table.inverse):
        if index is None and dot(line, row) != 0:
            return poly_of_powers(fit.powers, line, 1)
    return None


def greatest_sum(points, numbers, weights, powers, row, e):
    """A triple (poly, tie, way) for a row, where some polynomial has an error of at most e.

    Of the polynomials with an error of at most e, poly is one with the greatest sum, and tie a tie that shows it; way
    is None. If there is no greatest sum, they are None, None and a Poly as way_of tells it.
    """
    fit = Heights(points, numbers, weights, powers)
    whole, bottom = over_one_bottom(row)
    hint = []
    if long_bits(points, numbers, weights, powers) > LONG_BITS:
        hint = short_hint(points, numbers, weights, powers, whole, e)
    tied = Tied(fit, whole, e)
    table = tied.table(hint)
    way = way_of(fit, table, whole)
    if way is not None:
        return None, None, way
    prices = greatest_prices(table, tied.costs, tied.scales)
    poly = poly_of_powers(powers, [-number for number in prices], table.below * e[1])
    return poly, fit.told_shares(table, bottom), None


def short_hint(points, numbers, weights, powers, row, e):
    """The columns that lead to the greatest sum where all ratios are shortened; none if there are no such columns."""
    most = max([abs(top) // bottom + 1 for top, bottom in numbers])
    for bits in SHORT_BITS:
        rows = [[shortened(ratio, bits) for ratio in ratios] for ratios in (points, numbers, weights)]
        # Short ratios are not met as closely as long ones, so a little more room is left.
        room = plus(shortened(e, bits), (most, 1 << (bits // 2)))
        tied = Tied(Heights(rows[0], rows[1], rows[2], powers), row, room)
        table = tied.table([])
        if greatest_prices(table, tied.costs, tied.scales) is not None:
            return table.chosen
    return []
