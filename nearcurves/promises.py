"""Promises: what their texts tell, and whether they are kept."""

from nearcurves.desktexts import NO_ITEMS, ROW_WORDS, need_end, read_word
from nearcurves.errors import BadText, NoName
from nearcurves.errors_of import Within, within
from nearcurves.functions import Mixed, Quotient
from nearcurves.polys import Poly
from nearcurves.polytexts import behind_spaces, read_number
from nearcurves.programs import Frame, Program, alike, fits, greatest_error, never_falls
from nearcurves.programtexts import need_space, read_count, read_digits, read_name, run_end
from nearcurves.ratios import lower, times
from nearcurves.rows import atan_row, cos_row, exp_row, log_row, sin_row
from nearcurves.signs import Split, never_below

MOST_DIGITS = 20


class Promise:
    """What the text of a promise tells: its kind, where the names of items stand, the word of a row, and numbers."""

    def __init__(self, text):
        if not isinstance(text, str):
            raise BadText(0)
        self.text = text
        self.place = None
        self.spans = []
        self.row = ""
        self.numbers = []
        self.take_name()
        self.kind = self.take_word("at", "near", "alike", "never", "fits")
        if self.kind == "at":
            self.take_word("least")
            self.take_ratio()
            self.take_interval()
        elif self.kind == "near":
            self.take_near()
        elif self.kind == "alike":
            self.take_name()
        elif self.kind == "never":
            self.take_word("falls")
        else:
            self.take_whole()
            self.take_word("below")
            self.take_whole()
        need_end(text, self.place)

    def next_word(self):
        """The index of the next word, behind the spaces ahead of it."""
        if self.place is None:
            return behind_spaces(self.text, 0)
        return need_space(self.text, self.place)

    def take_name(self):
        """Reads the name of an item."""
        start = self.next_word()
        _, self.place = read_name(self.text, start, NO_ITEMS)
        self.spans.append((start, self.place))

    def take_word(self, *words):
        """Reads one of some words."""
        word, self.place = read_word(self.text, self.next_word(), words)
        return word

    def take_ratio(self):
        """Reads a ratio, perhaps with the sign - ahead of it."""
        start = self.next_word()
        sign = -1 if self.text[start:start + 1] == "-" else 1
        number, self.place = read_number(self.text, start + 1 if sign < 0 else start)
        self.numbers.append(times(number, sign))

    def take_whole(self):
        """Reads an integer from 0 on."""
        number, self.place = read_digits(self.text, self.next_word(), MOST_DIGITS)
        self.numbers.append(number)

    def take_bits(self):
        """Reads a number of bits."""
        number, self.place = read_count(self.text, self.next_word())
        self.numbers.append(number)

    def take_interval(self):
        """Reads the ends of an interval, with their words."""
        self.take_word("from")
        self.take_ends()

    def take_ends(self):
        """Reads the ends of an interval, behind the word from."""
        self.take_ratio()
        self.take_word("to")
        self.take_ratio()

    def take_near(self):
        """Reads what an item is near to, by how much and where."""
        start = self.next_word()
        end = run_end(self.text, start)
        if self.text[start:end] in ROW_WORDS:
            self.row, self.place = self.text[start:end], end
            self.kind = "row"
        else:
            self.take_name()
        self.take_word("by")
        self.take_ratio()
        if self.kind == "row":
            self.take_interval()
            self.take_word("gap")
            self.take_bits()
        elif self.take_word("from", "below") == "from":
            self.take_ends()
        else:
            self.kind = "frame"
            self.take_whole()
            self.take_word("frame")
            self.take_ratio()
            self.take_ratio()
            self.take_bits()

    def item_names(self):
        """The names of items in the promise."""
        return [self.text[start:end] for start, end in self.spans]

    def renamed(self, name, new):
        """The text with a new name in the place of another one."""
        found, ahead = [], 0
        for start, end in self.spans:
            if self.text[start:end] == name:
                found.extend([self.text[ahead:start], new])
                ahead = end
        return "".join([*found, self.text[ahead:]])


def may_stand(kind, place, item):
    """Whether an item is of a kind that may stand in a promise at the place of its first or second name."""
    if place == 1 and kind in ("near", "frame"):
        return isinstance(item, (Poly, Quotient))
    if kind in ("at", "near", "row"):
        return isinstance(item, Poly)
    return isinstance(item, Program)


def items_for(promise, items):
    """The items that a promise names. NoName."""
    names = promise.item_names()
    for place, name in enumerate(names):
        if name not in items or not may_stand(promise.kind, place, items[name]):
            raise NoName(name)
    return [items[name] for name in names]


def row_function(word):
    """The function of the row with a name."""
    if word == "exp":
        row = exp_row()
    elif word == "sin":
        row = sin_row()
    elif word == "cos":
        row = cos_row()
    else:
        row = atan_row() if word == "atan" else log_row()
    return Mixed(Poly(()), [(Poly((1,)), row)])


def witness_of(promise, items):
    """None if a promise about these items is kept; otherwise its witness."""
    numbers = promise.numbers
    if promise.kind == "at":
        answer = never_below(items[0] - numbers[0], numbers[1], numbers[2])
        return None if isinstance(answer, Split) else answer
    if promise.kind in ("near", "row"):
        # But for rows, no bits count.
        function = items[1] if promise.kind == "near" else row_function(promise.row)
        bits = 0 if promise.kind == "near" else numbers[3]
        answer = within(items[0], function, numbers[1], numbers[2], numbers[0], bits)
        return None if isinstance(answer, Within) else answer
    if promise.kind == "alike":
        return alike(items[0], items[1])
    if promise.kind == "never":
        return never_falls(items[0])
    if promise.kind == "fits":
        return fits(items[0], numbers[1], numbers[0])
    frame = Frame(numbers[2], numbers[3], numbers[4])
    peak = greatest_error(items[0], items[1], frame, numbers[1])
    return peak if lower(numbers[0], peak.value) else None
