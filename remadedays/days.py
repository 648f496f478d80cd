"""Sets of days: periodic to the right from some day on, to the left up to some day."""
from remadedays.dayparts import line_of_parts, parts_of
from remadedays.daytexts import days_text, read_pieces
from remadedays.errors import BadDay, BadDays, BadNumber, BadParts
from remadedays.kinds import is_between, is_day
from remadedays.lines import count_on_line, first_from, greatest_of, has_day, is_on_line, joined, last_up_to
from remadedays.lines import least_of, line_of_days, moved_line, other_line, whole_line
from remadedays.masks import mask_of


class Days:
    """A set of days. It is made by the class methods, not by a call of the class."""

    MOST = 4000

    def __init__(self, line):
        self._line = line

    @classmethod
    def of(cls, days):
        """The set of the days of a list or tuple."""
        if not isinstance(days, (list, tuple)):
            raise BadDays(None)
        for at, day in enumerate(days):
            if not is_day(day):
                raise BadDays(at)
        return cls(line_of_days(days))

    @classmethod
    def every(cls, period, *rests):
        """All days whose remainder by the period is that of one of the rests."""
        if not is_between(period, 1, Days.MOST):
            raise BadNumber(period)
        for rest in rests:
            if not is_day(rest):
                raise BadDay(rest)
        return cls(whole_line((period, mask_of([day % period for day in rests]))))

    @classmethod
    def from_day(cls, day):
        """All days from a day on."""
        if not is_day(day):
            raise BadDay(day)
        return cls(((1, 0), day, 0, day, (1, 1)))

    @classmethod
    def until(cls, day):
        """All days up to a day."""
        if not is_day(day):
            raise BadDay(day)
        return cls(((1, 1), day + 1, 0, day + 1, (1, 0)))

    @staticmethod
    def none():
        """No day."""
        return Days(whole_line((1, 0)))

    @staticmethod
    def always():
        """All days."""
        return Days(whole_line((1, 1)))

    @staticmethod
    def any_of(*many):
        """The union of any number of sets, joined from the left."""
        found = Days.none()
        for one in many:
            found = found | one
        return found

    @classmethod
    def from_parts(cls, parts):
        """The set that tells these parts."""
        line = line_of_parts(parts, Days.MOST)
        if line is None:
            raise BadParts(parts)
        return cls(line)

    @classmethod
    def read(cls, text):
        """The set with this text."""
        pieces = [days_of_piece(piece) for piece in read_pieces(text)]
        return cls.any_of(*pieces)

    def __and__(self, other):
        if not isinstance(other, Days):
            return NotImplemented
        return Days(joined("&", self._line, other._line))

    def __or__(self, other):
        if not isinstance(other, Days):
            return NotImplemented
        return Days(joined("|", self._line, other._line))

    def __xor__(self, other):
        if not isinstance(other, Days):
            return NotImplemented
        return Days(joined("^", self._line, other._line))

    def __sub__(self, other):
        if isinstance(other, Days):
            return Days(joined("-", self._line, other._line))
        if not is_day(other):
            raise BadDay(other)
        return Days(moved_line(self._line, -other))

    def __add__(self, other):
        if not is_day(other):
            raise BadDay(other)
        return Days(moved_line(self._line, other))

    def __radd__(self, other):
        if not is_day(other):
            raise BadDay(other)
        return Days(moved_line(self._line, other))

    def __invert__(self):
        return Days(other_line(self._line))

    def __le__(self, other):
        if not isinstance(other, Days):
            return NotImplemented
        return not has_day(joined("-", self._line, other._line))

    def __lt__(self, other):
        if not isinstance(other, Days):
            return NotImplemented
        return not has_day(joined("-", self._line, other._line)) and self._line != other._line

    def __ge__(self, other):
        if not isinstance(other, Days):
            return NotImplemented
        return not has_day(joined("-", other._line, self._line))

    def __gt__(self, other):
        if not isinstance(other, Days):
            return NotImplemented
        return not has_day(joined("-", other._line, self._line)) and self._line != other._line

    def __eq__(self, other):
        return isinstance(other, Days) and self._line == other._line

    def __contains__(self, x):
        return is_day(x) and is_on_line(self._line, x)

    def __bool__(self):
        return bool(has_day(self._line))

    def __str__(self):
        return str(days_text(parts_of(self._line)))

    @property
    def least(self):
        """The least day; None if there is none."""
        return least_of(self._line)

    @property
    def greatest(self):
        """The greatest day; None if there is none."""
        return greatest_of(self._line)

    @property
    def left_period(self):
        """The least period to the left."""
        return self._line[0][0]

    @property
    def right_period(self):
        """The least period to the right."""
        return self._line[4][0]

    @property
    def is_finite(self):
        """Whether the set goes on without end to no side."""
        return self._line[0][1] == 0 and self._line[4][1] == 0

    @property
    def parts(self):
        """The parts that tell this set: (left, low, middle, high, right)."""
        return parts_of(self._line)

    def count(self, a, b):
        """How many days are from a to b - 1."""
        return count_on_line(self._line, a, b)

    def after(self, day):
        """The next day behind a day; None if there is none."""
        return first_from(self._line, day + 1)

    def before(self, day):
        """The next day ahead of a day; None if there is none."""
        return last_up_to(self._line, day - 1)

    def within(self, a, b):
        """The days from a to b - 1, ascending."""
        day = first_from(self._line, a)
        while day is not None and day < b:
            yield day
            day = first_from(self._line, day + 1)

    def forward(self, day):
        """The days from a day on, ascending."""
        found = first_from(self._line, day)
        while found is not None:
            yield found
            found = first_from(self._line, found + 1)

    def backward(self, day):
        """The days from a day back, descending."""
        found = last_up_to(self._line, day)
        while found is not None:
            yield found
            found = last_up_to(self._line, found - 1)


def days_of_piece(piece):
    """The set of one piece of a text."""
    word, end, period, rests = piece
    if word == "days":
        return Days.of(rests)
    found = Days.every(period, *rests)
    if word == "left":
        return found & Days.until(end)
    if word == "right":
        return found & Days.from_day(end)
    return found
