"""Reading the texts of items, line by line, and telling them."""

from nearcurves.errors import BadLine, BadText
from nearcurves.functions import Quotient
from nearcurves.polys import Poly, poly_text, read_poly
from nearcurves.polytexts import behind_spaces
from nearcurves.programs import Program
from nearcurves.programtexts import Parsed, lines_of, need_sign, need_space, read_name

ROW_WORDS = ("exp", "sin", "cos", "atan", "log")
# No names of items: those that are none in programs, the words of items, and those of promises.
NO_ITEMS = (
    "x", "table", "poly", "quotient", "program", "end", "over", "from", "to", "below", "at", "least", "near", "by",
    "alike", "never", "falls", "fits", "frame", "gap", "exp", "sin", "cos", "atan", "log",
)


def is_item_name(value):
    """Whether any value is a name of an item."""
    if not isinstance(value, str):
        return False
    try:
        return read_name(value, 0, NO_ITEMS) == (value, len(value))
    except BadText:
        return False


def read_word(text, at, words):
    """One of some words, none of which begins another one, and the index behind it."""
    most = 0
    for word in words:
        size = same_signs(text, at, word)
        if size == len(word):
            return word, at + size
        most = max(most, size)
    raise BadText(at + most + 1)


def same_signs(text, at, word):
    """How many characters from an index on are those of a word."""
    size = 0
    while size < len(word) and text[at + size:at + size + 1] == word[size]:
        size = size + 1
    return size


def need_end(text, at):
    """BadText for what stands behind a whole text, but spaces."""
    end = behind_spaces(text, at)
    if end < len(text):
        raise BadText(end + 1)


class ItemReader:
    """What the lines of a text of items have told so far: the items, and the program that is not ended yet."""

    def __init__(self):
        self.entries = {}
        self.name = None
        self.parsed = None
        self.rows = []

    def put_line(self, line):
        """Puts in a line; BadText for a wrong one."""
        if self.parsed is not None:
            self.put_program_line(line)
        elif behind_spaces(line, 0) < len(line):
            self.put_item(line, behind_spaces(line, 0))

    def put_program_line(self, line):
        """Puts in a line of a program, or its end."""
        if line.strip(" ") != "end":
            self.parsed.put_line(line)
            self.rows.append(line + "\n")
            return
        if not self.parsed.steps:
            raise BadText(1)
        self.entries[self.name] = Program("".join(self.rows))
        self.parsed = None

    def put_item(self, line, at):
        """Puts in the item of a line, or begins a program."""
        word, end = read_word(line, at, ("poly", "quotient", "program"))
        start = need_space(line, end)
        name, end = read_name(line, start, NO_ITEMS)
        if name in self.entries:
            raise BadText(start + 1)
        if word == "program":
            need_end(line, end)
            self.name, self.parsed, self.rows = name, Parsed(), []
            return
        poly, end = read_poly(line, need_sign(line, end, "="))
        if word == "quotient":
            self.entries[name] = read_quotient(line, poly, end)
        else:
            need_end(line, end)
            self.entries[name] = poly


def read_quotient(line, top, at):
    """The Quotient of a line whose top ends, with the spaces behind it, at an index."""
    if line[at - 1] != " ":
        raise BadText(at + 1)
    _, end = read_word(line, at, ("over",))
    bottom, end = read_poly(line, need_space(line, end))
    need_end(line, end)
    if bottom.degree() < 0:
        # With one more term it may be another polynomial.
        raise BadText(len(line) + 1)
    return Quotient(top, bottom)


def items_of(text):
    """The items of a text, as a dict of their names. BadLine."""
    if not isinstance(text, str):
        raise BadLine(0, 0)
    reader = ItemReader()
    lines = lines_of(text)
    for place, line in enumerate(lines, start=1):
        try:
            reader.put_line(line)
        except BadText as wrong:
            raise BadLine(place, wrong.column) from None
    if reader.parsed is not None:
        raise BadLine(len(lines) + 1, 1)
    return reader.entries


def item_lines(name, item):
    """The lines of an item, without their line ends."""
    if isinstance(item, Poly):
        return [f"poly {name} = {poly_text(item)}"]
    if isinstance(item, Quotient):
        return [f"quotient {name} = {poly_text(item.top)} over {poly_text(item.bottom)}"]
    rows = [row.strip(" ") for row in item.text.split("\n")]
    return [f"program {name}", *[row for row in rows if row != ""], "end"]
