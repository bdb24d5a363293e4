"""Programs of tables, of lines, and of polynomials of integers; rows of integers for polynomials and frames."""

from nearcurves.errors import TooWide
from nearcurves.polys import number_of
from nearcurves.ratios import nearest_whole, times


def table_text(entries, low):
    """The text of a program that tells the entry of an input's block, blocks being told ahead of so many low bits."""
    row = " ".join([str(entry) for entry in entries])
    return f"table t {row}\nb = x >> {low}\ny = t[b]\n"


def line_text(entries, low, shift):
    """The text of a program that tells the number of the line of an input's block."""
    starts = " ".join([str(start) for start, _ in entries])
    slopes = " ".join([str(slope) for _, slope in entries])
    lines = [
        f"table starts {starts}", f"table slopes {slopes}", f"b = x >> {low}", f"rest = x & {low}", "start = starts[b]",
        "slope = slopes[b]", "rise = slope * rest", "number = start + rise", f"y = number >> {shift}", "",
    ]
    return "\n".join(lines)


def horner_text(wholes, shifts):
    """The text of a program that works out a polynomial of integers with shifts behind each of its products."""
    last = len(wholes) - 1
    lines = [f"a{last} = {wholes[last]}"]
    for power in range(last, 0, -1):
        lines.append(f"p{power} = a{power} * x")
        lines.append(f"q{power} = p{power} >> {shifts[power]}")
        lines.append(f"a{power - 1} = q{power} + {wholes[power - 1]}")
    lines.append(f"y = a0 >> {shifts[0]}")
    return "\n".join([*lines, ""])


def horner_number(wholes, shifts, x):
    """What this program tells for an input."""
    number = wholes[-1]
    for power in range(len(wholes) - 1, 0, -1):
        number = ((number * x) >> shifts[power]) + wholes[power - 1]
    return number >> shifts[0]


def due_row(poly, frame, width, kept):
    """The pair (wholes, shifts) of a Poly for so many kept bits, its values being taken at x / 2 ** width."""
    moved = poly.moved(frame.low, times(frame.step, 1 << width))
    last = max(0, moved.degree())
    scale = 1 << (frame.bits + kept)
    wholes = [nearest_whole(times(number_of(moved.numbers, power), scale)) for power in range(last + 1)]
    if kept > 0:
        # Half of what is cut off in the end, so that this comes to the nearest integer.
        wholes[0] = wholes[0] + (1 << (kept - 1))
    return tuple(wholes), (kept,) + (width,) * last


def first_outside(ends, wholes, shifts):
    """The first input at which the number of a polynomial is not from the floor to the top; None if there is none."""
    for x, (floor, top) in enumerate(zip(ends[0], ends[1])):
        if not floor <= horner_number(wholes, shifts, x) <= top:
            return x
    return None


def tells_alike(program, wholes, shifts, many):
    """Whether a program tells the numbers of a polynomial at all inputs below many."""
    try:
        return all([program.at(x) == horner_number(wholes, shifts, x) for x in range(many)])
    except TooWide:
        return False
