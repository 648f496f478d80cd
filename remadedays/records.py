"""Sets of records: for each table a set of days."""
from remadedays.days import Days
from remadedays.errors import BadDays, BadName
from remadedays.kinds import is_name
from remadedays.tables import names_of


class Records:
    """A set of records, pairs (table, day); a table that is not told has no day."""

    def __init__(self, sets):
        found = {}
        for table in names_of(sets):
            if not isinstance(sets[table], Days):
                raise BadDays(table)
            if sets[table]:
                found[table] = sets[table]
        self._sets = found
        self._tables = tuple(list(found))

    def __getitem__(self, at):
        if not is_name(at):
            raise BadName(at)
        if at in self._sets:
            return self._sets[at]
        return Days.none()

    def __contains__(self, x):
        if not isinstance(x, tuple) or len(x) != 2:
            return False
        table, day = x
        return is_name(table) and day in self[table]

    @property
    def tables(self):
        """The ascending tuple of the tables with a day."""
        return self._tables

    @property
    def parts(self):
        """The ascending tuple of the pairs of a table with a day and the parts of its set."""
        return tuple([(table, self._sets[table].parts) for table in self._tables])

    def __len__(self):
        return len(self._tables)

    def __iter__(self):
        return iter(self._tables)

    def __bool__(self):
        return bool(self._tables)

    def __and__(self, other):
        if not isinstance(other, Records):
            return NotImplemented
        return Records({table: self[table] & other[table] for table in self._tables})

    def __or__(self, other):
        if not isinstance(other, Records):
            return NotImplemented
        tables = {**self._sets, **other._sets}
        return Records({table: self[table] | other[table] for table in tables})

    def __sub__(self, other):
        if not isinstance(other, Records):
            return NotImplemented
        return Records({table: self[table] - other[table] for table in self._tables})

    def __le__(self, other):
        if not isinstance(other, Records):
            return NotImplemented
        return all([self[table] <= other[table] for table in self._tables])

    def __lt__(self, other):
        if not isinstance(other, Records):
            return NotImplemented
        return self <= other and self._sets != other._sets

    def __ge__(self, other):
        if not isinstance(other, Records):
            return NotImplemented
        return other <= self

    def __gt__(self, other):
        if not isinstance(other, Records):
            return NotImplemented
        return other < self

    def __eq__(self, other):
        return isinstance(other, Records) and self._sets == other._sets

    def __str__(self):
        if not self._tables:
            return "none"
        return "\n".join([f"{table} {self._sets[table]}" for table in self._tables])
