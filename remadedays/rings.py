"""Rings, and the heights and due nights of webs without a ring."""
from remadedays.errors import BadDay, BadNumber, NoTable, Unsound
from remadedays.kinds import is_between, is_day, is_name
from remadedays.links import begins_of, farthest_ends, least_worths, links_of, steps_back


def ring(web):
    """None for a sound web; otherwise a ring with as few records as any, of those the least tuple."""
    links = links_of(web)
    if least_worths(links, len(links), 1) is not None:
        return None
    start, steps = shortest_start(links)
    total = web.cycle.total
    tables = web.tables
    return tuple([(tables[at // total], day) for at, day in least_row(links, start, steps, total)])


def shortest_start(links):
    """The least number with a shortest ring, and how many links that has."""
    best = None
    steps = len(links)
    for start in range(len(links)):
        # A later start is better only if its ring is shorter.
        found = steps_back(links, start, steps if best is None else steps - 1)
        if found is not None:
            best = start
            steps = found
    return best, steps


def least_row(links, start, steps, total):
    """The least ring from a number with so many links, as a list of pairs (number, day)."""
    ends = farthest_ends(links, start, steps)
    first = start % total
    row = [(start, first)]
    for left in range(steps - 1, -1, -1):
        at, day = row[-1]
        row.append(least_step(links[at], day, ends[left], first))
    return row


def least_step(sources, day, ends, first):
    """The least next record from which the end can still be reached on the first day or later."""
    for source, days in sources:
        if source in ends and day + days + ends[source] >= first:
            return (source, day + days)
    return None


def heights(web):
    """The Heights of a sound web."""
    links = links_of(web)
    worths = least_worths(links, len(links), 1)
    if worths is None:
        raise Unsound(ring(web)[0][0])
    return Heights(web.tables, web.cycle.total, worths, least_worths(links, 1, 0))


class Heights:
    """The least heights of a sound web, and what the order of its records tells."""

    def __init__(self, tables, total, worths, delays):
        self._begin = begins_of(tables, total)
        self._total = total
        self._worths = worths
        self._delays = delays

    @property
    def steps(self):
        """The number of tables times the days of the cycle."""
        return len(self._worths)

    def __getitem__(self, at):
        table, rest = at
        if not self.has_table(table):
            raise NoTable(table)
        if not is_between(rest, 0, self._total - 1):
            raise BadNumber(rest)
        return self._worths[self._begin[table] + rest]

    def __iter__(self):
        raise TypeError("heights are not iterated over")

    def due(self, table, day):
        """The due night of a record."""
        return day + self._delays[self.number_of(table, day)]

    def key(self, table, day):
        """The tuple by which records are ordered."""
        at = self.number_of(table, day)
        return (day + self._delays[at], len(self._worths) * day + self._worths[at], table, day)

    def has_table(self, table):
        """Whether any value is a table of the web."""
        return is_name(table) and table in self._begin

    def number_of(self, table, day):
        """The number of a record's table and rest; refuses what is no record."""
        if not self.has_table(table):
            raise NoTable(table)
        if not is_day(day):
            raise BadDay(day)
        return self._begin[table] + day % self._total
