"""The errors of the package. Each keeps its fields just as they are given."""


class CurveError(ValueError):
    """The error that all others derive from."""


class BadText(CurveError):
    """A text is wrong at this column."""

    def __init__(self, column):
        self.column = column


class BadLine(CurveError):
    """A text of lines is wrong at this line and column."""

    def __init__(self, line, column):
        self.line = line
        self.column = column


class BadNumber(CurveError):
    """A number is not what it must be."""

    def __init__(self, what, number):
        self.what = what
        self.number = number


class BadRow(CurveError):
    """A row is not what it must be."""

    def __init__(self, row):
        self.row = row


class BadInterval(CurveError):
    """Two values are not the ends of an interval."""

    def __init__(self, low, high):
        self.low = low
        self.high = high


class BadName(CurveError):
    """A value is not a name."""

    def __init__(self, name):
        self.name = name


class Unlike(CurveError):
    """Things that must fit one another do not."""

    def __init__(self, what):
        self.what = what


class TooMany(CurveError):
    """There are more of some things than the limit."""

    def __init__(self, what, limit):
        self.what = what
        self.limit = limit


class TooLarge(CurveError):
    """A number is above its limit."""

    def __init__(self, what, number, limit):
        self.what = what
        self.number = number
        self.limit = limit


class TooWide(CurveError):
    """What is asked reaches too far out."""


class Pole(CurveError):
    """A quotient has a zero below its line."""


class Fewer(CurveError):
    """There are fewer of some things than are needed."""

    def __init__(self, what):
        self.what = what


class NoName(CurveError):
    """Nothing has this name."""

    def __init__(self, name):
        self.name = name


class TakenName(CurveError):
    """Something has this name already."""

    def __init__(self, name):
        self.name = name


class NotKept(CurveError):
    """A promise is not kept, as the witness shows."""

    def __init__(self, promise, witness):
        self.promise = promise
        self.witness = witness


class NothingToUndo(CurveError):
    """No edit stands that could be taken back."""


class NothingToRedo(CurveError):
    """No edit was taken back that could be done again."""
