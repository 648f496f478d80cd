"""Random webs, and what is found of them by plain looking, without the tricks of the package."""
from remadedays.cycles import Cycle
from remadedays.ties import Ahead, Back, Last, Same, Sofar, Whole
from remadedays.webs import Web

SMALL_ROWS = [(1,), (2,), (3,), (1, 2), (2, 1), (1, 3), (4,), (2, 1, 1), (2, 3), (1, 1)]


def some_tie(rng, source, total, calm):
    """A random tie; a calm one does not look ahead of the day."""
    kind = rng.randrange(6 if calm else 9)
    if kind == 0:
        return Whole(source)
    if kind == 1:
        return Last(source)
    if kind == 2:
        return Same(source)
    if kind == 3 and rng.random() < 0.5:
        return Sofar(source)
    if kind < 6:
        return Back(source, rng.randint(1 if calm else 0, min(60, 2 * total + 2)))
    return Ahead(source, rng.randint(1, min(60, total + 1)))


def some_web(rng, most_tables=3, calm=False):
    """A random small web."""
    lengths = rng.choice(SMALL_ROWS)
    names = rng.sample(["a", "b", "c", "d", "self", "cycle"], rng.randint(1, most_tables))
    tables = {}
    for name in names:
        ties = [some_tie(rng, rng.choice(names), sum(lengths), calm or rng.random() < 0.6) for _ in range(rng.randint(0, 3))]
        tables[name] = ties
    return Web.of(Cycle(*lengths), tables)


def made_from(web, record):
    """The ascending list of the records from which a record is made, straight from the ties."""
    table, day = record
    return sorted({(tie.source, at) for tie in web[table] for at in tie.sources(day, web.cycle)})


def numbers(web):
    """All pairs of a table and a rest."""
    return [(table, rest) for table in web.tables for rest in range(web.cycle.total)]


def ring_by_looking(web):
    """The ring that the document tells, by going through all rows of records of one length after another."""
    total = web.cycle.total
    rows = {start: {start: (start,)} for start in numbers(web)}
    for _ in numbers(web):
        closed = []
        for start, ends in rows.items():
            longer = {}
            for end, row in sorted(ends.items()):
                for source in made_from(web, end):
                    if source not in longer or row + (source,) < longer[source]:
                        longer[source] = row + (source,)
            rows[start] = longer
            closed += [row for (table, day), row in longer.items()
                       if table == start[0] and day >= start[1] and (day - start[1]) % total == 0]
        if closed:
            return min(closed)
    return None


def rows_from(web, record):
    """All rows of records that begin with a record, each made from the next, with no table and rest twice."""
    todo = [((record[0], record[1] % web.cycle.total), (record,))]
    while todo:
        _, row = todo.pop()
        yield row
        seen = {(table, day % web.cycle.total) for table, day in row}
        for table, day in made_from(web, row[-1]):
            if (table, day % web.cycle.total) not in seen:
                todo.append(((table, day % web.cycle.total), row + ((table, day),)))
