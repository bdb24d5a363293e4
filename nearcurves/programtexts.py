"""Reading the texts of programs, line by line.

Each function reads what begins at an index of a line, and tells it with the index behind it. BadText tells the column
of the first character with which no right line goes on, or of a name that may not stand there.

An operand is a pair: (True, number), or (False, place), 0 being the place of x, 1 that of the first step, and so on. A
step is a row (name, sign, operand, other): the sign is "" for an operand alone, "[" for an index of a table; other is
an operand, a count, or the index of a table.
"""

from nearcurves.errors import BadLine, BadText
from nearcurves.polytexts import behind_spaces, is_digit

LETTERS = "abcdefghijklmnopqrstuvwxyz"
NAME_SIGNS = "abcdefghijklmnopqrstuvwxyz0123456789"
MOST_SIGNS = 8
MOST_DIGITS = 30
MOST_COUNT = 60
NO_NAMES = ("x", "table")


class Parsed:
    """What the lines of a program have told so far: tables, steps, and where each name stands."""

    def __init__(self):
        self.tables = []
        self.steps = []
        self.places = {"x": (False, 0)}

    def put_line(self, line):
        """Puts in a line; BadText for a wrong one."""
        at = behind_spaces(line, 0)
        if at == len(line):
            return
        if not self.steps and is_word(line, at, "table"):
            self.put_table(line, at + len("table"))
        else:
            self.put_step(line, at)

    def new_name(self, line, at):
        """Reads a name that is not told yet."""
        name, end = read_name(line, at, NO_NAMES)
        if name in self.places:
            raise BadText(at + 1)
        return name, end

    def put_table(self, line, at):
        """Puts in the table of a line, behind its first word."""
        name, end = self.new_name(line, need_space(line, at))
        numbers = []
        while not numbers or behind_spaces(line, end) < len(line):
            number, end = read_number(line, need_space(line, end))
            numbers.append(number)
        self.places[name] = (True, len(self.tables))
        self.tables.append(tuple(numbers))

    def put_step(self, line, at):
        """Puts in the step of a line."""
        name, end = self.new_name(line, at)
        step, end = self.read_value(line, need_sign(line, end, "="))
        end = behind_spaces(line, end)
        if end < len(line):
            raise BadText(end + 1)
        self.places[name] = (False, len(self.steps) + 1)
        self.steps.append((name, *step))

    def read_value(self, line, at):
        """Reads the value of a step, as a row (sign, operand, other)."""
        start = behind_spaces(line, at)
        if line[start:start + 1] != "" and line[start] in LETTERS:
            name, end = read_name(line, start, ())
            is_table, place = self.places.get(name, (False, None))
            if is_table:
                operand, end = self.read_operand(line, need_sign(line, end, "["))
                return ("[", operand, place), need_sign(line, end, "]")
        operand, end = self.read_operand(line, start)
        at = behind_spaces(line, end)
        sign = line[at:at + 1]
        if sign == "":
            return ("", operand, None), end
        if sign in "+-*":
            other, end = self.read_operand(line, at + 1)
            return (sign, operand, other), end
        if sign in "<>":
            if line[at + 1:at + 2] != sign:
                raise BadText(at + 2)
            sign = sign + sign
        elif sign != "&":
            raise BadText(at + 1)
        count, end = read_count(line, behind_spaces(line, at + len(sign)))
        return (sign, operand, count), end

    def read_operand(self, line, at):
        """Reads x, the name of an earlier step, or a number."""
        start = behind_spaces(line, at)
        if line[start:start + 1] == "" or line[start] not in LETTERS:
            number, end = read_number(line, start)
            return (True, number), end
        name, end = read_name(line, start, ())
        is_table, place = self.places.get(name, (True, None))
        if is_table:
            raise BadText(start + 1)
        return (False, place), end


def run_end(line, at):
    """The index behind the letters and digits that stand from an index on."""
    while line[at:at + 1] != "" and line[at] in NAME_SIGNS:
        at = at + 1
    return at


def is_word(line, at, word):
    """Whether the letters and digits from an index on are just a word."""
    return line[at:run_end(line, at)] == word


def read_name(line, at, barred):
    """Reads a name that is none of the barred words."""
    if line[at:at + 1] == "" or line[at] not in LETTERS:
        raise BadText(at + 1)
    end = run_end(line, at)
    if end - at > MOST_SIGNS:
        raise BadText(at + MOST_SIGNS + 1)
    if line[at:end] in barred:
        # With one more sign it may be a name, but where it is as long as a name can be.
        raise BadText(end if end - at == MOST_SIGNS else end + 1)
    return line[at:end], end


def need_space(line, at):
    """The index behind one or more spaces."""
    if line[at:at + 1] != " ":
        raise BadText(at + 1)
    return behind_spaces(line, at)


def need_sign(line, at, sign):
    """The index behind a sign and the spaces ahead of it."""
    at = behind_spaces(line, at)
    if line[at:at + 1] != sign:
        raise BadText(at + 1)
    return at + 1


def read_digits(line, at, most):
    """Reads an integer from 0 on, of so many digits at most, without a 0 ahead of another digit."""
    if not is_digit(line, at):
        raise BadText(at + 1)
    end = at + 1
    while line[at] != "0" and is_digit(line, end) and end - at < most:
        end = end + 1
    if is_digit(line, end):
        raise BadText(end + 1)
    return int(line[at:end]), end


def read_number(line, at):
    """Reads an integer, perhaps with the sign - directly ahead of it."""
    if line[at:at + 1] == "-":
        number, end = read_digits(line, at + 1, MOST_DIGITS)
        return -number, end
    return read_digits(line, at, MOST_DIGITS)


def read_count(line, at):
    """Reads an integer from 0 to 60."""
    # Two digits may be wrong already ahead of a third one.
    if is_digit(line, at) and line[at] != "0" and is_digit(line, at + 1) and int(line[at:at + 2]) > MOST_COUNT:
        raise BadText(at + 2)
    return read_digits(line, at, 2)


def lines_of(text):
    """The lines of a text, without their line ends."""
    lines = text.split("\n")
    return lines[:-1] if lines[-1] == "" else lines


def parsed_program(text):
    """What the text of a program tells, as Parsed. BadLine."""
    parsed = Parsed()
    lines = lines_of(text)
    for place, line in enumerate(lines, start=1):
        try:
            parsed.put_line(line)
        except BadText as wrong:
            raise BadLine(place, wrong.column) from None
    if not parsed.steps:
        raise BadLine(len(lines) + 1, 1)
    return parsed
