"""What hangs on a record, found by going single steps over the records of some days."""
from math import lcm

from remadedays.cycles import Cycle
from remadedays.rings import heights, ring
from remadedays.ties import Ahead, Back, Last, Same
from remadedays.webs import Web
from webmodel import made_from, numbers, some_tie

ROWS = [(3, 1), (1, 4), (2, 3), (1, 2, 1), (2, 1, 3), (3,), (2, 2), (1, 1, 4), (5, 2), (1,), (7,)]
# How far the days of a drawn web's records can lie from their due nights at most.
SLACK = 90


def sound_web(rng, least=2, most=4, ground=False):
    """A drawn sound web; with a ground table, if asked for."""
    while True:
        lengths = rng.choice(ROWS)
        names = rng.sample(["a", "b", "c", "self", "z"], rng.randint(least, most))
        calm = rng.random() < 0.4
        tables = {}
        for name in names:
            tables[name] = [some_tie(rng, rng.choice(names), sum(lengths), calm or rng.random() < 0.6)
                            for _ in range(rng.choice((0, 1, 2, 2, 3)))]
        if ground:
            tables["g"] = []
            tables[names[0]] = [*tables[names[0]], some_tie(rng, "g", sum(lengths), rng.random() < 0.7)]
        web = Web.of(Cycle(*lengths), tables)
        if ring(web) is None and slack_of(web) <= SLACK:
            return web


def layered_web(rng):
    """A drawn web whose tables look far ahead, but only in tables above them; back in themselves, too."""
    lengths = rng.choice(ROWS)
    names = "gabcd"[:rng.randint(3, 5)]
    tables = {"g": []}
    far = rng.choice([2, 2, 9, 60])
    for at, name in enumerate(names[1:]):
        ties = [rng.choice([Ahead(source, rng.randint(1, 60)), Same(source), Last(source), Back(source, rng.randint(0, far))])
                for source in (rng.choice(names[:at + 1]) for _ in range(rng.randint(1, 3)))]
        if rng.random() < 0.3:
            ties.append(rng.choice([Back(name, rng.randint(1, 3)), Same(name)]))
        tables[name] = ties
    return Web.of(Cycle(*lengths), tables)


def loop_web(total, tables):
    """A web of ties back, from a table of values: for each table pairs (source, number)."""
    ties = {name: [Back(source, number) for source, number in pairs] for name, pairs in tables.items()}
    return Web.of(Cycle(total), ties)


def slack_of(web):
    """How far a record's due night lies behind its day at most."""
    found = heights(web)
    return max(found.due(table, rest) - rest for table, rest in numbers(web))


def users_within(web, first, end):
    """For each record of the days from first to end - 1 the list of those of these days that are made from it."""
    users = {(table, day): [] for table in web.tables for day in range(first, end)}
    for record in users:
        for source in made_from(web, record):
            if source in users:
                users[source].append(record)
    return users


def reached(users, record):
    """The set of all records to which steps lead from a record, itself too."""
    found, todo = {record}, [record]
    while todo:
        for other in users[todo.pop()]:
            if other not in found:
                found.add(other)
                todo.append(other)
    return found


def days_told(found, table, first, end):
    """The set of the days of a table in some Records, from first to end - 1."""
    return set(found[table].within(first, end))


def turn_by_looking(rows, total, steady):
    """The period with which some rows of bits all repeat, and the index from which on they do, as (period, index).

    rows: lists of True and False, which surely repeat from the index steady on, and for long. None if the
    period is more than 4,000. The index can be one below 0: all is False ahead of the rows.
    """
    period = total
    for row in rows:
        tail = "".join("1" if has else "0" for has in row[steady:])
        for shorter in range(1, len(tail) // 2):
            if tail.startswith(tail[shorter:]):
                period = lcm(period, shorter)
                break
        else:
            return None
    if period > 4000:
        return None
    begin = steady
    while begin > -5000 and all(bit(row, begin - 1) == bit(row, begin - 1 + period) for row in rows):
        begin -= 1
    return period, begin


def bit(row, at):
    """Whether a row has an index; none below 0."""
    return at >= 0 and row[at]
