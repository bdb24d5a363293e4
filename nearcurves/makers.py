"""Tables and lines of integers for all inputs of a width, and programs of polynomials."""

from nearcurves.blocks import (
    are_entries, bars_lines, bars_number, bars_straight, fewest_high, is_line, is_number, least_shifted, line_entries,
    shifted_ends, table_entries, unlined_block,
)
from nearcurves.checks import held, is_whole_from, is_whole_within, need_bits, need_ratio_from_zero
from nearcurves.dues import Dues
from nearcurves.errors import BadNumber, BadRow, TooMany, Unlike
from nearcurves.linefits import first_crossed
from nearcurves.polyprograms import (
    due_row, first_outside, horner_number, horner_text, line_text, table_text, tells_alike,
)
from nearcurves.programs import Program
from nearcurves.ratios import is_whole, lower, minus, plus

MOST_WIDTH = 10
MOST_SHIFT = 30
MOST_KEPT = 30
MOST_WHOLES = 13
MOST_COUNT = 60
HALF = (1, 2)


class Rounding:
    """The inputs at which a program is not within 1/2 of the due, and those at which this is not sure."""

    def __init__(self, wrong, unsure):
        self.wrong = held(wrong)
        self.unsure = held(unsure)


class Hard:
    """An input, and between what its due's distance from the nearest of all integers plus 1/2 is."""

    def __init__(self, x, least, most):
        self.x = held(x)
        self.least = held(least)
        self.most = held(most)


class Table:
    """An integer for each block of so many high bits, and a bar that shows that no table of fewer bits will do."""

    def __init__(self, high, entries, bar):
        self.high = held(high)
        self.entries = held(entries)
        self.bar = held(bar)


class TableBar:
    """Two inputs of a block at which no one integer will do."""

    def __init__(self, block, one, other):
        self.block = held(block)
        self.one = held(one)
        self.other = held(other)


class NoTable:
    """The answer that at an input no integer will do."""

    def __init__(self, x):
        self.x = held(x)


class Lines:
    """A line for each block of so many high bits, all shifted alike, and a bar that shows that no fewer will do."""

    def __init__(self, high, shift, entries, bar):
        self.high = held(high)
        self.shift = held(shift)
        self.entries = held(entries)
        self.bar = held(bar)


class LineBar:
    """Pairs of inputs of a block that bar all slopes of lines: up to one, and from the next one on."""

    def __init__(self, block, slope, lesser, greater):
        self.block = held(block)
        self.slope = held(slope)
        self.lesser = held(lesser)
        self.greater = held(greater)


class NoShift:
    """Inputs of a block that show that there is no straight line for it."""

    def __init__(self, block, inputs):
        self.block = held(block)
        self.inputs = held(inputs)


class Kept:
    """The least number of kept bits, a program with it, and an input for each lesser number that bars it."""

    def __init__(self, kept, program, bars):
        self.kept = held(kept)
        self.program = held(program)
        self.bars = held(bars)


class NoKept:
    """The answer that no number of kept bits will do, with an input for each."""

    def __init__(self, bars):
        self.bars = held(bars)


def need_number(number, what, least, most):
    """BadNumber for what is no integer from the least to the most."""
    if not is_whole_within(number, least, most):
        raise BadNumber(what, number)


def need_inputs(width, bits):
    """The errors of a width and of the bits of a gap."""
    need_number(width, "width", 1, MOST_WIDTH)
    need_bits(bits)


def rounding(program, function, frame, width, bits):
    """At which inputs a program does not tell the due, rounded, as Rounding."""
    need_inputs(width, bits)
    numbers = [program.at(x) for x in range(1 << width)]
    dues = Dues(function, frame, width)
    wrong, unsure = [], []
    for x, number in enumerate(numbers):
        distance = dues.distance(x, (number, 1))
        if lower(HALF, minus(distance, dues.slack)):
            wrong.append(x)
        elif lower(HALF, plus(distance, dues.slack)):
            unsure.append(x)
    return Rounding(wrong, unsure)


def hardest(function, frame, width, many, bits):
    """The inputs whose dues are nearest to being just between two integers, as a tuple of Hards."""
    need_inputs(width, bits)
    if not is_whole_from(many, 1):
        raise BadNumber("many", many)
    dues = Dues(function, frame, width)
    distances = [dues.distance(x, (2 * (top // bottom) + 1, 2)) for x, (top, bottom) in enumerate(dues.ratios)]
    # Unlike ratios differ by more than this, so they are in the order of these integers.
    more = 2 * max([bottom for _, bottom in distances]).bit_length()
    places = sorted([((top << more) // bottom, x) for x, (top, bottom) in enumerate(distances)])
    nearest = [x for _, x in places[:many]]
    return tuple([Hard(x, minus(distances[x], dues.slack), plus(distances[x], dues.slack)) for x in nearest])


def least_table(function, frame, width, e, bits):
    """The table of the fewest high bits, as Table; NoTable if there is none."""
    need_inputs(width, bits)
    need_ratio_from_zero(e, "e")
    ends = Dues(function, frame, width).ends_near(e)
    crossed = first_crossed(ends[0], ends[1])
    if crossed is not None:
        return NoTable(crossed)
    high, entries, bar = fewest_high(lambda size: table_entries(ends, size), width)
    return Table(high, entries, bar if bar is None else TableBar(*bar))


def least_lines(function, frame, width, shift, e, bits):
    """The lines of the fewest high bits, as Lines; NoTable if there are none."""
    need_inputs(width, bits)
    need_number(shift, "shift", 0, MOST_SHIFT)
    need_ratio_from_zero(e, "e")
    ends = Dues(function, frame, width).ends_near(e)
    crossed = first_crossed(ends[0], ends[1])
    if crossed is not None:
        return NoTable(crossed)
    high, entries, bar = fewest_high(lambda size: line_entries(ends, size, shift), width)
    return Lines(high, shift, entries, bar if bar is None else LineBar(*bar))


def least_shift(function, frame, width, high, e, bits):
    """The lines of so many high bits with the least shift, as Lines; NoShift if there are none."""
    need_inputs(width, bits)
    need_number(high, "high", 0, width)
    need_ratio_from_zero(e, "e")
    ends = Dues(function, frame, width).ends_near(e)
    size = 1 << (width - high)
    unlined = unlined_block(ends, size)
    if unlined is not None:
        return NoShift(*unlined)
    found = least_shifted(ends, size, MOST_SHIFT)
    if found is None:
        raise TooMany("shift", MOST_SHIFT)
    shift, entries, bar = found
    return Lines(high, shift, entries, bar if bar is None else LineBar(*bar))


def is_table(function, frame, width, e, bits, answer):
    """Whether any value is what least_table tells."""
    need_inputs(width, bits)
    need_ratio_from_zero(e, "e")
    wide, narrow = Dues(function, frame, width).judged_ends(e, bits)
    if isinstance(answer, NoTable):
        return is_without(narrow, answer.x)
    if not isinstance(answer, Table) or not is_whole_within(answer.high, 0, width):
        return False
    if not are_entries(wide, 1 << (width - answer.high), answer.entries, is_number):
        return False
    bar = answer.bar
    if answer.high == 0:
        return bar is None
    if not isinstance(bar, TableBar):
        return False
    return bars_number(narrow, 1 << (width - answer.high + 1), bar.block, (bar.one, bar.other))


def is_without(ends, x):
    """Whether any value is an input at which there is no integer."""
    return is_whole_within(x, 0, len(ends[0]) - 1) and ends[0][x] > ends[1][x]


def is_lines(function, frame, width, shift, e, bits, answer):
    """Whether any value is what least_lines tells."""
    need_inputs(width, bits)
    need_number(shift, "shift", 0, MOST_SHIFT)
    need_ratio_from_zero(e, "e")
    wide, narrow = Dues(function, frame, width).judged_ends(e, bits)
    if isinstance(answer, NoTable):
        return is_without(narrow, answer.x)
    if not isinstance(answer, Lines) or not is_whole_within(answer.high, 0, width):
        return False
    if not is_whole(answer.shift) or answer.shift != shift:
        return False
    if not are_entries(shifted_ends(wide, shift), 1 << (width - answer.high), answer.entries, is_line):
        return False
    if answer.high == 0:
        return answer.bar is None
    return is_line_bar(narrow, 1 << (width - answer.high + 1), shift, answer.bar)


def is_line_bar(ends, size, shift, bar):
    """Whether any value is a LineBar for a block of so many inputs."""
    if not isinstance(bar, LineBar):
        return False
    return bars_lines(ends, size, shift, (bar.block, bar.slope, bar.lesser, bar.greater))


def is_shift(function, frame, width, high, e, bits, answer):
    """Whether any value is what least_shift tells."""
    need_inputs(width, bits)
    need_number(high, "high", 0, width)
    need_ratio_from_zero(e, "e")
    wide, narrow = Dues(function, frame, width).judged_ends(e, bits)
    size = 1 << (width - high)
    if isinstance(answer, NoShift):
        return bars_straight(narrow, size, answer.block, answer.inputs)
    if not isinstance(answer, Lines) or not is_whole(answer.high) or answer.high != high:
        return False
    if not is_whole_within(answer.shift, 0, MOST_SHIFT):
        return False
    if not are_entries(shifted_ends(wide, answer.shift), size, answer.entries, is_line):
        return False
    if answer.shift == 0:
        return answer.bar is None
    return is_line_bar(narrow, size, answer.shift - 1, answer.bar)


def program_of(answer, width):
    """A Program that tells the numbers of a Table or of Lines at all inputs of a width."""
    need_number(width, "width", 1, MOST_WIDTH)
    if not is_whole_within(answer.high, 0, width) or len(answer.entries) != 1 << answer.high:
        raise Unlike("entries")
    if isinstance(answer, Lines):
        return Program(line_text(answer.entries, width - answer.high, answer.shift))
    return Program(table_text(answer.entries, width - answer.high))


def horner(wholes, shifts):
    """A Program that works out a polynomial of integers with shifts behind each of its products."""
    if not is_whole_row(wholes) or not 1 <= len(wholes) <= MOST_WHOLES:
        raise BadRow(wholes)
    if not is_whole_row(shifts) or len(shifts) != len(wholes) or not all([0 <= item <= MOST_COUNT for item in shifts]):
        raise BadRow(shifts)
    return Program(horner_text(wholes, shifts))


def is_whole_row(value):
    """Whether any value is a tuple or list of integers."""
    return isinstance(value, (tuple, list)) and all([is_whole(item) for item in value])


def kept_row(poly, frame, width, kept):
    """The pair (wholes, shifts) of a Poly for so many kept bits."""
    need_number(width, "width", 1, MOST_WIDTH)
    need_number(kept, "kept", 0, MOST_KEPT)
    return due_row(poly, frame, width, kept)


def need_kept(width, e, bits, most):
    """The errors of what asks for kept bits."""
    need_inputs(width, bits)
    need_ratio_from_zero(e, "e")
    need_number(most, "most", 0, MOST_KEPT)


def least_kept(poly, function, frame, width, e, bits, most):
    """The least number of kept bits that will do, as Kept; NoKept if there is none."""
    need_kept(width, e, bits, most)
    ends = Dues(function, frame, width).ends_near(e)
    bars = []
    for kept in range(most + 1):
        wholes, shifts = due_row(poly, frame, width, kept)
        outside = first_outside(ends, wholes, shifts)
        if outside is None:
            return Kept(kept, horner(wholes, shifts), bars)
        bars.append(outside)
    return NoKept(bars)


def is_kept(poly, function, frame, width, e, bits, most, answer):
    """Whether any value is what least_kept tells."""
    need_kept(width, e, bits, most)
    wide, narrow = Dues(function, frame, width).judged_ends(e, bits)
    if isinstance(answer, NoKept):
        return are_kept_bars(poly, frame, width, narrow, answer.bars, most + 1)
    if not isinstance(answer, Kept) or not is_whole_within(answer.kept, 0, most):
        return False
    wholes, shifts = due_row(poly, frame, width, answer.kept)
    if first_outside(wide, wholes, shifts) is not None:
        return False
    if not isinstance(answer.program, Program) or not tells_alike(answer.program, wholes, shifts, 1 << width):
        return False
    return are_kept_bars(poly, frame, width, narrow, answer.bars, answer.kept)


def are_kept_bars(poly, frame, width, ends, bars, many):
    """Whether any value is a tuple of inputs that bar the first numbers of kept bits, so many of them."""
    if not isinstance(bars, tuple) or len(bars) != many:
        return False
    for kept, x in enumerate(bars):
        if not is_whole_within(x, 0, (1 << width) - 1):
            return False
        wholes, shifts = due_row(poly, frame, width, kept)
        if ends[0][x] <= horner_number(wholes, shifts, x) <= ends[1][x]:
            return False
    return True
