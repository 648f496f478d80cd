"""Rules and keepings: for each table a number of nights."""
from remadedays.errors import BadName, BadNumber
from remadedays.kinds import is_between, is_name
from remadedays.nighttexts import ALL_NIGHTS, MOST_NIGHTS, nights_text, read_nights
from remadedays.tables import names_of


class Nights:
    """For each table a number of nights, or "all". It is not made itself: the classes below tell of what."""

    ALL = "all"

    def __init__(self, nights, untold):
        self._untold = untold
        self._values = checked_nights(nights, untold)

    def __getitem__(self, at):
        return value_in(self, at)

    def __iter__(self):
        raise TypeError("nights are not iterated over")

    def __str__(self):
        return str(nights_text(self._values))

    @property
    def told(self):
        """The ascending tuple of the tables with another value than one that is not told."""
        return tuple(list(self._values))


class Rule(Nights):
    """For how many nights behind its due night a record of a table is made again; 0 for a table not told."""

    # A table can have the name self, so the object of this call has a name that no table has.
    def __init__(own_self, **nights):
        Nights.__init__(own_self, by_name(nights), 0)

    @classmethod
    def of(cls, nights):
        """The rule with a table of values."""
        made = Rule()
        made._values = checked_nights(nights, 0)
        return made

    @classmethod
    def read(cls, text):
        """The rule with this text."""
        return cls.of(read_nights(text))

    @property
    def told(self):
        """The ascending tuple of the tables with another value than 0."""
        return tuple(list(self._values))

    def put(self, table, value):
        """The rule with another value of a table."""
        return Rule.of(values_with(self, table, value))

    def __getitem__(self, at):
        return value_in(self, at)

    def __iter__(self):
        raise TypeError("rules are not iterated over")

    def __le__(self, other):
        if not isinstance(other, Rule):
            return NotImplemented
        return is_at_most(self, other)

    def __lt__(self, other):
        if not isinstance(other, Rule):
            return NotImplemented
        return is_at_most(self, other) and self._values != other._values

    def __eq__(self, other):
        return isinstance(other, Rule) and self._values == other._values

    def __and__(self, other):
        if not isinstance(other, Rule):
            return NotImplemented
        return Rule.of(values_of_both(self, other, False))

    def __or__(self, other):
        if not isinstance(other, Rule):
            return NotImplemented
        return Rule.of(values_of_both(self, other, True))

    def __str__(self):
        return str(nights_text(self._values))


class Keeping(Nights):
    """For how many nights behind its due night a record of a table can be read; "all" for a table not told."""

    # A table can have the name self, so the object of this call has a name that no table has.
    def __init__(own_self, **nights):
        Nights.__init__(own_self, by_name(nights), ALL_NIGHTS)

    @classmethod
    def of(cls, nights):
        """The keeping with a table of values."""
        made = Keeping()
        made._values = checked_nights(nights, ALL_NIGHTS)
        return made

    @classmethod
    def read(cls, text):
        """The keeping with this text."""
        return cls.of(read_nights(text))

    @property
    def told(self):
        """The ascending tuple of the tables with another value than "all"."""
        return tuple(list(self._values))

    def put(self, table, value):
        """The keeping with another value of a table."""
        return Keeping.of(values_with(self, table, value))

    def __getitem__(self, at):
        return value_in(self, at)

    def __iter__(self):
        raise TypeError("keepings are not iterated over")

    def __le__(self, other):
        if not isinstance(other, Keeping):
            return NotImplemented
        return is_at_most(self, other)

    def __lt__(self, other):
        if not isinstance(other, Keeping):
            return NotImplemented
        return is_at_most(self, other) and self._values != other._values

    def __eq__(self, other):
        return isinstance(other, Keeping) and self._values == other._values

    def __and__(self, other):
        if not isinstance(other, Keeping):
            return NotImplemented
        return Keeping.of(values_of_both(self, other, False))

    def __or__(self, other):
        if not isinstance(other, Keeping):
            return NotImplemented
        return Keeping.of(values_of_both(self, other, True))

    def __str__(self):
        return str(nights_text(self._values))


def by_name(nights):
    """The same table of values with its keys, which are strings, in ascending order."""
    return {key: nights[key] for key in sorted([str(name) for name in nights])}


def checked_nights(nights, untold):
    """The told values by table, ascending; refuses a table of values that is none of nights."""
    values = {}
    for table in names_of(nights):
        if not is_nights(nights[table]):
            raise BadNumber(nights[table])
        if nights[table] != untold:
            values[table] = nights[table]
    return values


def is_nights(value):
    """Whether a value is a number of nights, or "all"."""
    return is_between(value, 0, MOST_NIGHTS) or (isinstance(value, str) and value == ALL_NIGHTS)


def value_in(nights, table):
    """The value of a table in a Nights."""
    if not is_name(table):
        raise BadName(table)
    return nights._values.get(table, nights._untold)


def values_with(nights, table, value):
    """The told values of a Nights with another value of a table."""
    if not is_name(table):
        raise BadName(table)
    return {**nights._values, table: value}


def rank_of(value):
    """A number of nights; for "all" a greater one than any."""
    return MOST_NIGHTS + 1 if value == ALL_NIGHTS else value


def is_at_most(one, other):
    """Whether the value of each table in one is at most that in the other."""
    tables = [*list(one._values), *list(other._values)]
    return all([rank_of(one[table]) <= rank_of(other[table]) for table in tables])


def values_of_both(one, other, greater):
    """For each table that one of two has told the lesser, or the greater, of its values."""
    found = {}
    for table in [*list(one._values), *list(other._values)]:
        if greater == (rank_of(one[table]) > rank_of(other[table])):
            found[table] = one[table]
        else:
            found[table] = other[table]
    return found
