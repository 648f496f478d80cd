"""All errors that the package raises for its callers."""


class DayError(ValueError):
    """The base of all errors of this package."""


class BadDay(DayError):
    """A value that is no day."""

    def __init__(self, value):
        self.value = value


class BadNumber(DayError):
    """A value that is no number within its bounds."""

    def __init__(self, value):
        self.value = value


class BadName(DayError):
    """A value that is no name."""

    def __init__(self, value):
        self.value = value


class BadTable(DayError):
    """A value that is no table of values."""

    def __init__(self, value):
        self.value = value


class BadDays(DayError):
    """What is no list of days or no set of days, with the index or the table of the first wrong one."""

    def __init__(self, at):
        self.at = at


class BadCycle(DayError):
    """What is no cycle, with the index of the first wrong length."""

    def __init__(self, at):
        self.at = at


class BadTies(DayError):
    """A table whose ties are no list or tuple of ties."""

    def __init__(self, table):
        self.table = table


class BadParts(DayError):
    """A value that is not the parts of a set of days."""

    def __init__(self, value):
        self.value = value


class NoTable(DayError):
    """A value that is no table of the web."""

    def __init__(self, table):
        self.table = table


class NotGround(DayError):
    """A table that has ties where a ground one must stand."""

    def __init__(self, table):
        self.table = table


class InUse(DayError):
    """A table that cannot be left out: another one has a tie to it."""

    def __init__(self, table):
        self.table = table


class Unlike(DayError):
    """A part in which two webs must be alike, and are not."""

    def __init__(self, part):
        self.part = part


class Unsound(DayError):
    """A web that has a ring, with the table of its first record."""

    def __init__(self, table):
        self.table = table


class TooShort(DayError):
    """A table that is kept for too few nights."""

    def __init__(self, table):
        self.table = table


class NotYet(DayError):
    """A day behind the last night that was done."""

    def __init__(self, value):
        self.value = value


class TooMany(DayError):
    """More of something than may be, with the most that may be."""

    def __init__(self, what, most):
        self.what = what
        self.most = most


class BadText(DayError):
    """A text that cannot be read, with the line and the word that cannot stand."""

    def __init__(self, line, word):
        self.line = line
        self.word = word


class BadLine(DayError):
    """A line of the desk that cannot be read, with the word that cannot stand."""

    def __init__(self, word):
        self.word = word
