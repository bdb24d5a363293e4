"""Programs of whole numbers, and what they tell FOR ALL inputs."""

from nearcurves.checks import held, is_whole_from, is_whole_within, need_bits, need_ratio_from_zero
from nearcurves.drifting import drift_pairs, ideals, need_plain
from nearcurves.errors import BadLine, BadNumber, Pole, TooLarge, TooWide
from nearcurves.functions import Mixed, Quotient, sums
from nearcurves.peaks import Against, Peaks, first_negative, first_unlike, peaks_of
from nearcurves.polys import Poly, over_one_bottom
from nearcurves.programtexts import parsed_program
from nearcurves.ratios import is_ratio, lower, lowest, minus, plus, times, told
from nearcurves.shapes import difference, step_classes
from nearcurves.signs import count_zeros
from nearcurves.targets import tail_of, terms_within
from nearcurves.wholecorners import moved_row, value_at

MOST_INPUTS = 1 << 64
MOST_TABLE_INPUTS = 1024
MOST_WORD = 200


class Program:
    """A program, told by its text."""

    def __init__(self, text):
        if not isinstance(text, str):
            raise BadLine(0, 0)
        parsed = parsed_program(text)
        self.text = text
        self.tables = tuple(parsed.tables)
        self.steps = tuple(parsed.steps)
        self.names = tuple([step[0] for step in parsed.steps])

    def at(self, x):
        """What the program tells for an input."""
        return self.all_at(x)[-1]

    def all_at(self, x):
        """The values of all steps for an input."""
        need_input(x)
        found = [x]
        for _, sign, operand, other in self.steps:
            number = operand[1] if operand[0] else found[operand[1]]
            if sign == "[":
                if not 0 <= number < len(self.tables[other]):
                    raise TooWide()
                found.append(self.tables[other][number])
            elif sign in ("<<", ">>", "&", ""):
                found.append(shifted(sign, number, other))
            else:
                found.append(joined_numbers(sign, number, other[1] if other[0] else found[other[1]]))
        return tuple(found[1:])


class Shape:
    """The polynomials of a program, one for each rest of the input."""

    def __init__(self, bits, polys):
        self.bits = held(bits)
        self.polys = held(polys)

    def at(self, x):
        """The value for an input."""
        need_input(x)
        return self.polys[x & ((1 << self.bits) - 1)].at(x)[0]


class Peak:
    """The least input with a greatest or a least value, and this value."""

    def __init__(self, x, value):
        self.x = held(x)
        self.value = held(value)


class Spill:
    """The first step whose value does not fit in a word, and the least input at which one does not."""

    def __init__(self, name, x):
        self.name = held(name)
        self.x = held(x)


class Frame:
    """What inputs and numbers stand for: the points low + step * x, and numbers divided by 2 ** bits."""

    def __init__(self, low, step, bits):
        if not is_ratio(low):
            raise BadNumber("low", low)
        if not is_ratio(step) or not lower(0, step):
            raise BadNumber("step", step)
        need_bits(bits)
        self.low = told(low, "low")
        self.step = told(step, "step")
        self.bits = bits

    def point(self, x):
        """The point of an integer."""
        return plus(self.low, times(self.step, x))


class Fine:
    """The answer that an error is small enough at all inputs."""


class Off:
    """The answer that the error at an input is too great."""

    def __init__(self, x):
        self.x = held(x)


class NearBy:
    """The answer that the greatest error is too near to tell, by twice a tail."""

    def __init__(self, slack):
        self.slack = held(slack)


def need_input(x):
    """BadNumber for what is no input."""
    if not is_whole_from(x, 0):
        raise BadNumber("x", x)


def shifted(sign, number, count):
    """A number shifted, or its rest, or itself."""
    if sign == "<<":
        return number << count
    if sign == ">>":
        return number >> count
    return number & ((1 << count) - 1) if sign == "&" else number


def joined_numbers(sign, number, other):
    """The sum, the difference or the product of two numbers."""
    if sign == "+":
        return number + other
    return number - other if sign == "-" else number * other


def shape(program):
    """The Shape of a program without tables."""
    last = step_classes(program)[-1]
    return Shape(last.bits, [Poly([(number, 1 << bits) for number in row]) for row, bits in last.rows])


def alike(one, other):
    """None if two programs tell the same for all inputs; otherwise the least input at which they do not."""
    first = step_classes(one)[-1]
    return first_unlike(first, step_classes(other)[-1], None)


def never_falls(program):
    """None if a program never tells less for the next input; otherwise the least input at which it does."""
    last = step_classes(program)[-1]
    rows = []
    for rest, pair in enumerate(last.rows):
        row, bits = last.row_of(rest + 1)
        rows.append(difference((moved_row(row, 1), bits), pair))
    return first_negative(rows, last.bits, None)


def never_negative(program):
    """None if a program tells at least 0 for all inputs; otherwise the least input at which it does not."""
    last = step_classes(program)[-1]
    return first_negative([row for row, _ in last.rows], last.bits, None)


def looked_at(program, many):
    """A pair (values, classes), of which one is None, with the errors of what looks at inputs below a bound.

    For a program with tables a list of the values of all steps for each input, for any other the Classes of all steps.
    """
    if not is_whole_from(many, 1):
        raise BadNumber("many", many)
    most = MOST_TABLE_INPUTS if program.tables else MOST_INPUTS
    if many > most:
        raise TooLarge("many", many, most)
    if program.tables:
        return [program.all_at(x) for x in range(many)], None
    return None, step_classes(program)


def step_peaks(looked, place, against, many):
    """The Peaks of a step less a quotient, for what looked_at tells."""
    values, classes = looked
    if values is None:
        return peaks_of(classes[place], against, many)
    peaks = Peaks()
    for x, row in enumerate(values):
        top, bottom = against.worth(row[place], x)
        peaks.look(top, bottom, x)
    return peaks


def greatest(program, many):
    """The greatest value, and the least input with it."""
    return last_peak(program, many, True)


def least(program, many):
    """The least value, and the least input with it."""
    return last_peak(program, many, False)


def last_peak(program, many, is_most):
    """The Peak of the last step."""
    peaks = step_peaks(looked_at(program, many), -1, Against([], [1], 0), many)
    top, bottom, x = peaks.most if is_most else peaks.least
    return Peak(x, top // bottom)


def fits(program, many, word):
    """None if the values of all steps fit in a word at all inputs; otherwise a Spill."""
    if not is_whole_within(word, 1, MOST_WORD):
        raise BadNumber("word", word)
    values, classes = looked_at(program, many)
    half = 1 << (word - 1)
    if values is None:
        return class_spill(program.names, classes, many, half)
    for x, row in enumerate(values):
        for name, value in zip(program.names, row):
            if not -half <= value < half:
                return Spill(name, x)
    return None


def class_spill(names, classes, many, half):
    """None if the values of all Classes are from -half to half less 1; otherwise a Spill."""
    spill = None
    most = many - 1
    for name, step in zip(names, classes):
        above = [difference(((half - 1,), 0), pair) for pair in step.rows]
        under = [difference(pair, ((-half,), 0)) for pair in step.rows]
        for rows in (above, under):
            # What comes later, is told for lesser inputs alone.
            x = first_negative(rows, step.bits, most)
            if x is not None:
                spill = Spill(name, x)
                most = x - 1
    return spill


def least_word(program, many):
    """The least word in which all values of all steps fit at all inputs."""
    looked = looked_at(program, many)
    word = 1
    for place in range(len(program.steps)):
        peaks = step_peaks(looked, place, Against([], [1], 0), many)
        for top, bottom, _ in (peaks.most, peaks.least):
            value = top // bottom
            word = max(word, (value if value >= 0 else -1 - value).bit_length() + 1)
    return word


def alike_below(one, other, many):
    """None if two programs tell the same for all inputs below many; otherwise the least one at which they do not."""
    _, classes = looked_at(one, many)
    _, others = looked_at(other, many)
    if classes is not None and others is not None:
        return first_unlike(classes[-1], others[-1], many)
    for x in range(many):
        if one.at(x) != other.at(x):
            return x
    return None


def against_of(top, bottom, frame):
    """What the points of inputs have as top / bottom, without poles, as Against."""
    tops, below = over_one_bottom(top.moved(frame.low, frame.step).numbers)
    bottoms, factor = over_one_bottom(bottom.moved(frame.low, frame.step).numbers)
    sign = -1 if value_at(bottoms, 0, 1) < 0 else 1
    below, factor = lowest(sign * below, factor)
    return Against([number * sign * factor for number in tops], [number * below for number in bottoms], frame.bits)


def greatest_error(program, function, frame, many):
    """The greatest error against a polynomial or a quotient, and the least input with it."""
    looked = looked_at(program, many)
    top, bottom = (function.top, function.bottom) if isinstance(function, Quotient) else (function, Poly((1,)))
    low, high = frame.point(0), frame.point(many - 1)
    if bottom.at(low)[0] == 0 or (many > 1 and count_zeros(bottom, low, high) > 0):
        raise Pole()
    above, below, x = step_peaks(looked, -1, against_of(top, bottom, frame), many).farthest()
    return Peak(x, lowest(above, below))


def error_within(program, function, frame, many, e, bits):
    """Whether the error against a Mixed function is at most e at all inputs: Fine, Off or NearBy."""
    looked = looked_at(program, many)
    need_ratio_from_zero(e, "e")
    need_bits(bits)
    low, high = frame.point(0), frame.point(many)
    terms = terms_within(function, low, high, (1, 1 << bits))
    rest = tail_of(function, low, high, terms)
    near = sums(function, terms) if isinstance(function, Mixed) else function
    above, below, x = step_peaks(looked, -1, against_of(near, Poly((1,)), frame), many).farthest()
    if not lower(minus(e, rest), (above, below)):
        return Fine()
    return Off(x) if lower(plus(e, rest), (above, below)) else NearBy(times(2, rest))


def ideal(program):
    """The Poly that a program without tables and rests would tell without roundings."""
    need_plain(program)
    return ideals(program)[-1]


def drifts(program, many):
    """For each step, between what ratios its value less that of its ideal is at all inputs below many."""
    need_plain(program)
    if not is_whole_from(many, 1):
        raise BadNumber("many", many)
    if many > MOST_INPUTS:
        raise TooLarge("many", many, MOST_INPUTS)
    return drift_pairs(program, many)
