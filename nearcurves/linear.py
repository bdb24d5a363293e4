"""Systems of linear equations over integers, and the best of all their solutions that are nowhere below 0."""

# From so many bits on, exact division by a product is faster than Python's own, which is slow for long integers.
LONG_BITS = 4000


def dot(one, other):
    """The sum of the products of the items of two rows."""
    return sum([left * right for left, right in zip(one, other)])


def exact_quotients(numbers, divisor):
    """The quotients of some integers, all of which an integer above 0 divides."""
    if divisor == 1:
        return list(numbers)
    if divisor.bit_length() < LONG_BITS:
        return [number // divisor for number in numbers]
    twos = (divisor & -divisor).bit_length() - 1
    odd = divisor >> twos
    # An odd integer has an inverse among the residues of each power of 2, and a residue of enough bits tells all.
    bits = max([number.bit_length() for number in numbers]) - divisor.bit_length() + 3
    if bits < 3:
        return [0] * len(numbers)
    inverse = inverse_of_odd(odd, bits)
    return [signed_residue(((number >> twos) & ((1 << bits) - 1)) * inverse, bits) for number in numbers]


def inverse_of_odd(odd, bits):
    """An integer that, times an odd one, leaves 1 as the residue of 2 ** bits."""
    inverse = 1
    known = 1
    while known < bits:
        known = min(2 * known, bits)
        mask = (1 << known) - 1
        inverse = inverse * (2 - (odd & mask) * inverse) & mask
    return inverse


def signed_residue(number, bits):
    """The integer with the residue of a number for 2 ** bits that is nearest to 0."""
    residue = number & ((1 << bits) - 1)
    return residue - (1 << bits) if residue >> (bits - 1) else residue


class System:
    """The sum of some chosen columns, each times an amount, is the right side; there are as many as there are rows.

    Ahead of all columns, each row has a column of its own, with one 1 in this row, which is told by None. The inverse
    of the chosen columns has lines that are to be divided by below.

    Where pairs (heights, load) are told, the columns begin with two for each of them: heights and load, and the
    negatives of heights and load; without load if there is no more room for it.
    """

    def __init__(self, columns, right, pairs=()):
        size = len(right)
        self.columns = columns
        self.pairs = pairs
        self.right = right
        self.chosen = [None] * size
        self.inverse = [[1 if place == row else 0 for place in range(size)] for row in range(size)]
        self.below = 1

    def weighed(self, column):
        """What the chosen columns are to be multiplied by for a column as their sum, times below."""
        return [dot(line, column) for line in self.inverse]

    def weight(self, row, column):
        """What the column chosen for a row is to be multiplied by for a column as a sum, times below; None weighs 0."""
        return 0 if column is None else dot(self.inverse[row], column)

    def prices(self, costs):
        """The row, times below, whose products with the chosen columns are their costs; None costs 0."""
        total = [0] * len(self.right)
        for index, line in zip(self.chosen, self.inverse):
            if index is not None and costs[index] != 0:
                total = [number + costs[index] * item for number, item in zip(total, line)]
        return total

    def products(self, prices):
        """The sums of products of prices and each of the columns."""
        found = []
        for heights, load in self.pairs:
            high = dot(prices, heights)
            rest = prices[-1] * load if len(heights) < len(prices) else 0
            found.append(rest + high)
            found.append(rest - high)
        return found + [dot(prices, column) for column in self.columns[len(found):]]

    def exchange(self, row, index, weights):
        """Puts a column, with its weights, in the place of the one that is chosen for a row."""
        factor = weights[row]
        pivot_line = self.inverse[row]
        lines = []
        for place, line in enumerate(self.inverse):
            if place != row:
                weight = weights[place]
                wide = [factor * number - weight * item for number, item in zip(line, pivot_line)]
                line = exact_quotients(wide, self.below)
            lines.append(line)
        if factor < 0:
            lines = [[-number for number in line] for line in lines]
        self.inverse = lines
        self.below = abs(factor)
        self.chosen[row] = index

    def turn(self, row, index):
        """Puts a column in the place of a chosen one of which it is the negative."""
        self.inverse[row] = [-number for number in self.inverse[row]]
        self.chosen[row] = index


def choose(table, indices):
    """Puts columns in the places of others than these, as far as none is a sum of multiples of those ahead of it."""
    wanted = {index: True for index in indices}
    for index in indices:
        rows = [row for row, chosen in enumerate(table.chosen) if chosen is None or chosen not in wanted]
        if not rows:
            return
        weights = table.weighed(table.columns[index])
        rows = [row for row in rows if weights[row] != 0]
        if rows and index not in table.chosen:
            table.exchange(rows[0], index, weights)


def are_amounts(table):
    """Whether all amounts are from 0 on, and those of rows' own columns 0."""
    amounts = table.weighed(table.right)
    return all([amount == 0 or (amount > 0 and index is not None) for index, amount in zip(table.chosen, amounts)])


def greatest_prices(table, costs, scales):
    """The prices, times below, once no column costs more than its price; None if costs have no greatest sum.

    Costs of amounts are summed up; scales, integers above 0, tell what gains are measured by.
    """
    start = list(table.chosen)
    while True:
        prices = table.prices(costs)
        index = entering(table, costs, scales, prices)
        if index is None:
            return prices
        weights = table.weighed(table.columns[index])
        row = leaving(table, weights, start)
        if row is None:
            return None
        is_own = table.chosen[row] is None
        table.exchange(row, index, weights)
        if is_own:
            start = list(table.chosen)


def entering(table, costs, scales, prices):
    """The index of the column with the greatest gain, if one costs more than its price."""
    best = None
    best_gain = 0
    for index, product in enumerate(table.products(prices)):
        gain = costs[index] * table.below - product
        if gain > 0 and (best is None or gain * scales[best] > best_gain * scales[index]):
            best = index
            best_gain = gain
    return best


def leaving(table, weights, start):
    """The row whose column's amount is the first to come down to 0; None if none ever is."""
    amounts = table.weighed(table.right)
    best = None
    for row, index in enumerate(table.chosen):
        if index is None and weights[row] != 0:
            return row
        if weights[row] > 0:
            if best is None or is_sooner(table, weights, amounts, start, row, best):
                best = row
    return best


def is_sooner(table, weights, amounts, start, row, best):
    """Whether the amount of a row comes down to 0 ahead of that of another one.

    Where both do at once, it is as if the right side had a little of the first column of the start more, far less of
    the second one, and so on: so no two amounts do, and steps cannot go round in a circle.
    """
    one, other = amounts[row] * weights[best], amounts[best] * weights[row]
    for index in start:
        if one != other:
            return one < other
        column = None if index is None else table.columns[index]
        one = weights[best] * table.weight(row, column)
        other = weights[row] * table.weight(best, column)
    return one < other
