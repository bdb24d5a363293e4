"""Quotients of polynomials on points, and the shares that bar them: by linear equations.

Each point has three columns, for its shares a, b and c, which are multiplied by integers so that all of them are
integers. The sum of all shares c, so multiplied, is as great as can be, but at most 1.
"""

from math import gcd

from nearcurves.fits import poly_of_powers, power_row_of, shortened
from nearcurves.linear import System, are_amounts, choose, greatest_prices
from nearcurves.ratios import lowest

# Longer ratios are first taken in short, which tells, mostly, the columns that lead to the answer.
SHORT_BITS = (64, 192)


class Sides:
    """The columns for points, degrees m and n, and an error e, and what each of them was multiplied by."""

    def __init__(self, points, numbers, weights, m, n, e):
        self.m = m
        self.n = n
        self.columns = []
        self.factors = []
        self.costs = []
        self.scales = []
        for point, number, weight in zip(points, numbers, weights):
            self.put(point, number, weight, e)
        # The last column is for what is left to 1.
        self.columns.append([0] * (m + n + 2) + [1])
        self.costs.append(0)
        self.scales.append(1)

    def put(self, point, number, weight, e):
        """Puts in the columns of a point."""
        heights, factor = power_row_of(point, tuple(range(max(self.m, self.n) + 1)))
        tops, bottoms = heights[:self.m + 1], heights[:self.n + 1]
        # w * x ** j and e - w * f, e + w * f, all times the bottoms of w, f and e.
        scale = weight[1] * number[1] * e[1]
        size = weight[0] * number[1] * e[1]
        room = e[0] * weight[1] * number[1]
        load = weight[0] * number[0] * e[1]
        self.put_column([size * item for item in tops] + [(room - load) * item for item in bottoms], factor * scale, 0)
        self.put_column([-size * item for item in tops] + [(room + load) * item for item in bottoms], factor * scale, 0)
        self.put_column([0] * (self.m + 1) + bottoms, factor, factor)

    def put_column(self, column, factor, cost):
        """Puts in a column that was multiplied by a factor, for a share with a cost."""
        shared = gcd(factor, cost)
        for item in column:
            shared = gcd(shared, item)
        self.columns.append([item // shared for item in column] + [cost // shared])
        self.factors.append((factor, shared))
        self.costs.append(cost // shared)
        self.scales.append(max([abs(item) // shared for item in column] + [1]))

    def system(self):
        """The System of the columns, with the last one for what is left."""
        size = self.m + self.n + 2
        system = System(self.columns, [0] * size + [1])
        system.chosen[size] = len(self.columns) - 1
        return system

    def told_rows(self, system):
        """The rows (a, b, c) of the chosen amounts."""
        found = [(0, 1)] * len(self.factors)
        for index, amount in zip(system.chosen, system.weighed(system.right)):
            if index is not None and index < len(self.factors):
                top, below = self.factors[index]
                found[index] = lowest(amount * top, system.below * below)
        return tuple([tuple(found[place:place + 3]) for place in range(0, len(found), 3)])


def fit_or_shares(points, m, n, e):
    """A triple (top, bottom, shares): a top and a bottom with an error of at most e, or shares that bar e."""
    sides = Sides(points.points, points.numbers, points.weights, m, n, e)
    for bits in SHORT_BITS:
        rows = [[shortened(ratio, bits) for ratio in row] for row in (points.points, points.numbers, points.weights)]
        short_e = shortened(e, bits)
        short = Sides(*rows, m, n, short_e)
        system = short.system()
        greatest_prices(system, short.costs, short.scales)
        answer = answer_from(sides, system.chosen)
        if answer is not None:
            return answer
    return answer_from(sides, [])


def answer_from(sides, hint):
    """The answer of fit_or_shares; None if the columns of the hint are no beginning for it."""
    system = sides.system()
    choose(system, [index for index in hint if index is not None])
    if not are_amounts(system):
        return None
    prices = greatest_prices(system, sides.costs, sides.scales)
    # The last price is the greatest sum of the shares c.
    if prices[-1] > 0:
        return None, None, sides.told_rows(system)
    top = poly_of_powers(tuple(range(sides.m + 1)), prices[:sides.m + 1], system.below)
    return top, poly_of_powers(tuple(range(sides.n + 1)), prices[sides.m + 1:-1], system.below), None
