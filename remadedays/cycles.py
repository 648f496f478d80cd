"""Cycles: rows of block lengths that follow one another again and again over all days."""
from remadedays.errors import BadCycle, BadDay, TooMany
from remadedays.kinds import is_between, is_day
from remadedays.words import words_of

MOST_BLOCKS = 12
MOST_TOTAL = 60


class Cycle:
    """A row of 1 to 12 block lengths, together at most 60 days."""

    def __init__(self, *lengths):
        check_lengths(lengths)
        self._lengths = lengths
        self._total = sum(lengths)

    @classmethod
    def of(cls, lengths):
        """The cycle of a list or tuple of lengths."""
        if not isinstance(lengths, (list, tuple)):
            raise BadCycle(None)
        return cls(*lengths)

    @classmethod
    def read(cls, text):
        """The cycle with this text."""
        words = words_of(text)
        lengths = take_lengths(words)
        return cls(*lengths)

    @property
    def lengths(self):
        """The tuple of the block lengths."""
        return self._lengths

    @property
    def total(self):
        """How many days all blocks have together."""
        return self._total

    def __len__(self):
        return len(self._lengths)

    def __iter__(self):
        return iter(self._lengths)

    def __eq__(self, other):
        return isinstance(other, Cycle) and self._lengths == other._lengths

    def __str__(self):
        return " ".join([str(length) for length in self._lengths])

    def block(self, day):
        """The number of the day's block; the one that begins on day 0 has the number 0."""
        if not is_day(day):
            raise BadDay(day)
        return day // self._total * len(self._lengths) + self.spot(day)[0]

    def first(self, day):
        """The first day of the day's block."""
        if not is_day(day):
            raise BadDay(day)
        return self.ends(day)[0]

    def last(self, day):
        """The last day of the day's block."""
        if not is_day(day):
            raise BadDay(day)
        return self.ends(day)[1]

    def place(self, day):
        """How many days of its block are ahead of the day."""
        if not is_day(day):
            raise BadDay(day)
        return self.spot(day)[1]

    def length(self, day):
        """The length of the day's block."""
        if not is_day(day):
            raise BadDay(day)
        return self._lengths[self.spot(day)[0]]

    def __rmod__(self, other):
        if not is_day(other):
            raise BadDay(other)
        return other % self._total

    def __rfloordiv__(self, other):
        if not is_day(other):
            raise BadDay(other)
        return other // self._total

    # Python asks no reflected method if both sides are of one class.
    def __mod__(self, other):
        if not isinstance(other, Cycle):
            return NotImplemented
        raise BadDay(self)

    def __floordiv__(self, other):
        if not isinstance(other, Cycle):
            return NotImplemented
        raise BadDay(self)

    def spot(self, day):
        """The index of the length of a day's block, and the day's place. Any integer will do for a day."""
        place = day % self._total
        index = 0
        while place >= self._lengths[index]:
            place = place - self._lengths[index]
            index = index + 1
        return index, place

    def ends(self, day):
        """The first and the last day of a day's block. Any integer will do for a day."""
        index, place = self.spot(day)
        return day - place, day - place + self._lengths[index] - 1


def check_lengths(lengths):
    """Refuses a tuple that is no row of block lengths."""
    for at, length in enumerate(lengths):
        if not is_between(length, 1, MOST_TOTAL):
            raise BadCycle(at)
    if not lengths:
        raise BadCycle(0)
    if len(lengths) > MOST_BLOCKS:
        raise TooMany("blocks", MOST_BLOCKS)
    if sum(lengths) > MOST_TOTAL:
        raise TooMany("days", MOST_TOTAL)


def take_lengths(words):
    """The block lengths that the words of a line tell, to its end."""
    lengths = [words.take_integer(1, MOST_TOTAL)]
    while not words.is_over():
        lengths.append(words.take_integer(1, MOST_TOTAL))
    return lengths
