"""Ties: from which days of another table a record is made."""
from remadedays.errors import BadName, BadNumber
from remadedays.kinds import is_between, is_name
from remadedays.words import words_of

MOST_NUMBER = 60
KINDS = ("back", "ahead", "sofar", "whole", "last", "same")


class Tie:
    """A tie to a table, its source. It is not made itself: the classes below tell of which days."""

    def __init__(self, source):
        if not is_name(source):
            raise BadName(source)
        self.source = source

    @classmethod
    def read(cls, text):
        """The tie with this text."""
        words = words_of(text)
        tie = take_tie(words)
        words.take_end()
        return tie

    def sources(self, day, cycle):
        """The days from which a record of the day is made, ascending."""
        return ()

    def users(self, day, cycle):
        """The days whose records are made from this day, ascending."""
        return ()

    def __call__(self, day, cycle):
        return self.sources(day, cycle)


class Numbered:
    """What has a number, from a least one to 60."""

    def __init__(self, number, least):
        if not is_between(number, least, MOST_NUMBER):
            raise BadNumber(number)
        self.number = number


class Back(Tie, Numbered):
    """The day so many days ahead of this one."""

    def __init__(self, source, number):
        Tie.__init__(self, source)
        Numbered.__init__(self, number, 0)

    def sources(self, day, cycle):
        """The one day from which a record of the day is made."""
        return (day - self.number,)

    def users(self, day, cycle):
        """The one day whose record is made from this day."""
        return (day + self.number,)

    def __call__(self, day, cycle):
        return self.sources(day, cycle)

    def __eq__(self, other):
        return isinstance(other, Back) and self.source == other.source and self.number == other.number

    def __str__(self):
        return f"back {self.number} {self.source}"


class Ahead(Tie, Numbered):
    """The day so many days behind this one."""

    def __init__(self, source, number):
        Tie.__init__(self, source)
        Numbered.__init__(self, number, 1)

    def sources(self, day, cycle):
        """The one day from which a record of the day is made."""
        return (day + self.number,)

    def users(self, day, cycle):
        """The one day whose record is made from this day."""
        return (day - self.number,)

    def __call__(self, day, cycle):
        return self.sources(day, cycle)

    def __eq__(self, other):
        return isinstance(other, Ahead) and self.source == other.source and self.number == other.number

    def __str__(self):
        return f"ahead {self.number} {self.source}"


class Sofar(Tie):
    """The days of the day's block up to the day."""

    def __init__(self, source):
        Tie.__init__(self, source)

    def sources(self, day, cycle):
        """The days of the block up to this one."""
        return tuple(range(cycle.ends(day)[0], day + 1))

    def users(self, day, cycle):
        """The days of the block from this one on."""
        return tuple(range(day, cycle.ends(day)[1] + 1))

    def __call__(self, day, cycle):
        return self.sources(day, cycle)

    def __eq__(self, other):
        return isinstance(other, Sofar) and self.source == other.source

    def __str__(self):
        return f"sofar {self.source}"


class Whole(Tie):
    """All days of the block before the day's block."""

    def __init__(self, source):
        Tie.__init__(self, source)

    def sources(self, day, cycle):
        """All days of the block before."""
        return block_before(day, cycle)

    def users(self, day, cycle):
        """All days of the next block."""
        return block_behind(day, cycle)

    def __call__(self, day, cycle):
        return self.sources(day, cycle)

    def __eq__(self, other):
        return isinstance(other, Whole) and self.source == other.source

    def __str__(self):
        return f"whole {self.source}"


class Last(Tie):
    """The last day of the block before the day's block."""

    def __init__(self, source):
        Tie.__init__(self, source)

    def sources(self, day, cycle):
        """The last day of the block before."""
        return (cycle.ends(day)[0] - 1,)

    def users(self, day, cycle):
        """All days of the next block, if this day is the last one of its block."""
        return block_behind(day, cycle) if cycle.ends(day)[1] == day else ()

    def __call__(self, day, cycle):
        return self.sources(day, cycle)

    def __eq__(self, other):
        return isinstance(other, Last) and self.source == other.source

    def __str__(self):
        return f"last {self.source}"


class Same(Tie):
    """The day with the same place in the block before the day's block."""

    def __init__(self, source):
        Tie.__init__(self, source)

    def sources(self, day, cycle):
        """The day with the same place in the block before, if that is long enough."""
        return at_place(block_before(day, cycle), day - cycle.ends(day)[0])

    def users(self, day, cycle):
        """The day with the same place in the next block, if that is long enough."""
        return at_place(block_behind(day, cycle), day - cycle.ends(day)[0])

    def __call__(self, day, cycle):
        return self.sources(day, cycle)

    def __eq__(self, other):
        return isinstance(other, Same) and self.source == other.source

    def __str__(self):
        return f"same {self.source}"


def block_before(day, cycle):
    """The days of the block before the day's block."""
    last = cycle.ends(day)[0] - 1
    return tuple(range(cycle.ends(last)[0], last + 1))


def block_behind(day, cycle):
    """The days of the block that follows the day's block."""
    first = cycle.ends(day)[1] + 1
    return tuple(range(first, cycle.ends(first)[1] + 1))


def at_place(days, place):
    """The day with this place among the days of a block, as a tuple; an empty one if the block is too short."""
    return days[place:place + 1]


def take_tie(words):
    """The tie that the next words of a line tell."""
    kind = words.take_one_of(KINDS)
    if kind == "back":
        number = words.take_integer(0, MOST_NUMBER)
        return Back(words.take_name(), number)
    if kind == "ahead":
        number = words.take_integer(1, MOST_NUMBER)
        return Ahead(words.take_name(), number)
    source = words.take_name()
    if kind == "sofar":
        return Sofar(source)
    if kind == "whole":
        return Whole(source)
    if kind == "last":
        return Last(source)
    return Same(source)


def take_ties(words):
    """The list of the ties that the words of a line tell, each behind the word from, to its end."""
    ties = []
    while not words.is_over():
        words.take_one_of(("from",))
        ties.append(take_tie(words))
    return ties
