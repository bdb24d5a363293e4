"""What programs without tables tell FOR ALL inputs: polynomials in x, one for each class of inputs.

The classes of so many bits are those of inputs with the same rest r. A polynomial is a pair (row, bits): a row of
integers, to be divided by 2 ** bits, without zeros behind it, and not all of them even unless the bits are 0; so equal
polynomials are equal pairs.
"""

from nearcurves.errors import TooMany, Unlike
from nearcurves.wholecorners import value_at
from nearcurves.wholerows import product_row

MOST_BITS = 10


class Classes:
    """The polynomials of all classes of so many bits; depth is the sum of COUNTs that hang on one another."""

    def __init__(self, bits, rows, depth):
        while bits > 0 and rows[:len(rows) // 2] == rows[len(rows) // 2:]:
            rows = rows[:len(rows) // 2]
            bits = bits - 1
        self.bits = bits
        self.rows = rows
        self.depth = depth

    def row_of(self, x):
        """The polynomial of the class of an input."""
        return self.rows[x & ((1 << self.bits) - 1)]


def plain_row(row, bits):
    """The pair (row, bits) of a polynomial in its one form."""
    row = list(row)
    while row and row[-1] == 0:
        row.pop()
    both = 0
    for number in row:
        both = both | number
    twos = bits if both == 0 else min(bits, (both & -both).bit_length() - 1)
    return tuple([number >> twos for number in row]), bits - twos


def worth_at(pair, x):
    """The value of a polynomial at an input of its class, an integer."""
    row, bits = pair
    return value_at(row, x, 1) >> bits


def difference(one, other):
    """The row of one polynomial less another one, times a power of 2."""
    row, bits = one
    other_row, other_bits = other
    most = max(bits, other_bits)
    found = [number << (most - bits) for number in row]
    found = found + [0] * (len(other_row) - len(found))
    for place, number in enumerate(other_row):
        found[place] = found[place] - (number << (most - other_bits))
    return found


def sum_pair(one, other, sign):
    """The sum of two polynomials, the other one times a sign."""
    row, bits = other
    return plain_row(difference(one, ([-sign * number for number in row], bits)), max(one[1], bits))


def product_pair(one, other):
    """The product of two polynomials."""
    if not one[0] or not other[0]:
        return (), 0
    return plain_row(product_row(list(one[0]), list(other[0])), one[1] + other[1])


def combined(sign, one, other):
    """The Classes of a sum, a difference or a product."""
    bits = max(one.bits, other.bits)
    rows = []
    for x in range(1 << bits):
        left, right = one.row_of(x), other.row_of(x)
        if sign == "*":
            rows.append(product_pair(left, right))
        else:
            rows.append(sum_pair(left, right, 1 if sign == "+" else -1))
    return Classes(bits, rows, max(one.depth, other.depth))


def cut_off(sign, one, count):
    """The Classes of a shift to the right, or of a rest. TooMany("classes", 1024) where there may be more."""
    depth = one.depth + count
    if depth > MOST_BITS:
        raise TooMany("classes", 1 << MOST_BITS)
    mask = (1 << count) - 1
    rows = []
    for x in range(1 << depth):
        row, bits = one.row_of(x)
        rest = worth_at((row, bits), x) & mask
        if sign == "&":
            rows.append(plain_row([rest], 0))
        else:
            less = [row[0] - (rest << bits), *row[1:]] if row else []
            rows.append(plain_row(less, bits + count))
    return Classes(depth, rows, depth)


def step_classes(program):
    """The Classes of all steps of a program, as a list. Unlike("table"), TooMany("classes", 1024)."""
    if program.tables:
        raise Unlike("table")
    found = [Classes(0, [((0, 1), 0)], 0)]
    for _, sign, operand, other in program.steps:
        one = classes_of(operand, found)
        if sign == "<<":
            rows = [plain_row([number << other for number in row], bits) for row, bits in one.rows]
            found.append(Classes(one.bits, rows, one.depth))
        elif sign in (">>", "&"):
            found.append(cut_off(sign, one, other))
        elif sign == "":
            found.append(one)
        else:
            found.append(combined(sign, one, classes_of(other, found)))
    return found[1:]


def classes_of(operand, found):
    """The Classes of an operand."""
    is_number, value = operand
    return Classes(0, [plain_row([value], 0)], 0) if is_number else found[value]
