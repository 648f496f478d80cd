"""Webs: tables over a cycle, and the ties between them."""
from remadedays.cycles import Cycle
from remadedays.errors import BadCycle, BadDay, BadName, BadTies, InUse, NoTable, NotGround, TooMany, Unlike
from remadedays.kinds import is_day, is_name
from remadedays.tables import in_order, names_of
from remadedays.ties import Tie

MOST_TABLES = 6
MOST_TIES = 6
MOST_EDGES = 2000


class Web:
    """A cycle and tables with their ties; a table without ties is ground."""

    def __init__(self, cycle, **tables):
        if not isinstance(cycle, Cycle):
            raise BadCycle(None)
        self._cycle = cycle
        self._ties = checked_ties(cycle, tables)
        self._tables = tuple(list(self._ties))

    @classmethod
    def of(cls, cycle, tables):
        """The web with a table of values, which can have the names self and cycle, too."""
        made = Web(cycle)
        ties = checked_ties(cycle, tables)
        made._ties = ties
        made._tables = tuple(list(ties))
        return made

    @property
    def cycle(self):
        """The cycle."""
        return self._cycle

    @property
    def tables(self):
        """The ascending tuple of all tables."""
        return self._tables

    @property
    def ground(self):
        """The ascending tuple of the tables without ties."""
        return tuple([table for table in self._tables if not self._ties[table]])

    def __getitem__(self, at):
        if at not in self:
            raise NoTable(at)
        return self._ties[at]

    def __contains__(self, x):
        return is_name(x) and x in self._ties

    def __len__(self):
        return len(self._tables)

    def __iter__(self):
        return iter(self._tables)

    def __eq__(self, other):
        return isinstance(other, Web) and self._cycle == other._cycle and self._ties == other._ties

    def __or__(self, other):
        if not isinstance(other, Web):
            return NotImplemented
        if not self._cycle == other._cycle:
            raise Unlike("cycle")
        return Web.of(self._cycle, ties_of_both(self._ties, other._ties))

    def sources(self, table, day):
        """The ascending tuple of the records from which a record is made."""
        self.check_place(table, day)
        return in_order([(tie.source, at) for tie in self._ties[table] for at in tie.sources(day, self._cycle)])

    def users(self, table, day):
        """The ascending tuple of the records that are made from a record."""
        self.check_place(table, day)
        found = []
        for name in self._tables:
            for tie in self._ties[name]:
                if tie.source == table:
                    found.extend([(name, at) for at in tie.users(day, self._cycle)])
        return in_order(found)

    def put(self, table, ties):
        """The web with other ties of a table, or with a table more."""
        if not is_name(table):
            raise BadName(table)
        return Web.of(self._cycle, {**self._ties, table: ties})

    def without(self, table):
        """The web without a table to which no other one has a tie."""
        if table not in self:
            raise NoTable(table)
        rest = {name: self._ties[name] for name in self._tables if name != table}
        if any([tie.source == table for name in rest for tie in rest[name]]):
            raise InUse(table)
        return Web.of(self._cycle, rest)

    def check_place(self, table, day):
        """Refuses what is no table of the web or no day."""
        if table not in self:
            raise NoTable(table)
        if not is_day(day):
            raise BadDay(day)

    def check_ground(self, table, day):
        """Refuses what is no ground table of the web or no day."""
        if table not in self:
            raise NoTable(table)
        if self._ties[table]:
            raise NotGround(table)
        if not is_day(day):
            raise BadDay(day)


def checked_ties(cycle, tables):
    """The ties by table, ascending, as tuples; refuses a table of values that is not the tables of a web."""
    ties = {}
    for name in names_of(tables):
        if not is_ties(tables[name]):
            raise BadTies(name)
        ties[name] = tuple(tables[name])
    if len(ties) > MOST_TABLES:
        raise TooMany("tables", MOST_TABLES)
    if any([len(told) > MOST_TIES for told in ties.values()]):
        raise TooMany("ties", MOST_TIES)
    for name in ties:
        for tie in ties[name]:
            if tie.source not in ties:
                raise NoTable(tie.source)
    if edges_of(cycle, ties) > MOST_EDGES:
        raise TooMany("edges", MOST_EDGES)
    return ties


def is_ties(value):
    """Whether a value is a list or tuple of ties."""
    if not isinstance(value, (list, tuple)):
        return False
    return all([isinstance(tie, Tie) for tie in value])


def edges_of(cycle, ties):
    """How many edges the tables with these ties have."""
    days = range(cycle.total)
    return sum([len(tie.sources(day, cycle)) for name in ties for tie in ties[name] for day in days])


def ties_of_both(one, other):
    """The ties of the tables of two webs; a table of both that is ground in one has those of the other."""
    both = {}
    for name in sorted([str(key) for key in {**one, **other}]):
        mine = one.get(name, ())
        theirs = other.get(name, ())
        if mine and theirs and mine != theirs:
            raise Unlike(name)
        both[name] = mine or theirs
    return both
