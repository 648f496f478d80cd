"""Papers that are changed in places, and what lookers must say of papers, found without them."""
from math import lcm

from remadedays.days import Days
from remadedays.errors import BadParts
from webmodel import made_from, numbers


def same(one, other):
    """Whether two papers are equal, with values of the same kinds."""
    if type(one) is not type(other):
        return False
    if type(one) is not tuple:
        return one == other
    return len(one) == len(other) and all(same(a, b) for a, b in zip(one, other))


def places(paper, at=()):
    """The places of all parts of a paper, as tuples of indexes; its own place is empty."""
    yield at
    if type(paper) is tuple:
        for index, part in enumerate(paper):
            yield from places(part, (*at, index))


def with_part(paper, at, change):
    """The paper with the part at a place changed."""
    if not at:
        return change(paper)
    return (*paper[:at[0]], with_part(paper[at[0]], at[1:], change), *paper[at[0] + 1:])


def changed(rng, paper):
    """The paper with one thing otherwise, at any depth."""
    return with_part(paper, rng.choice(list(places(paper))), lambda part: otherwise(rng, part))


def otherwise(rng, part):
    """Another part in the place of one."""
    if rng.random() < 0.08:
        return rng.choice([None, (), 0, "", "a", True, False, [], {}, 1.0, (None,), Days.none(), -1])
    if type(part) is int:
        return rng.choice([part + 1, part - 1, float(part) if abs(part) < 10 ** 15 else -part, part == 1, None, str(part),
                           (part,), part + 7, -part])
    if type(part) is str:
        return rng.choice([part + "x", part[:-1], "g", "a", part.upper(), None, (part,), "stale", part + part])
    if type(part) is not tuple:
        return rng.choice([0, (), False, "none", 1])
    kind = rng.randrange(7)
    if kind == 0:
        return list(part)
    if kind == 1 and part:
        at = rng.randrange(len(part))
        return part[:at] + part[at + 1:]
    if kind == 2 and part:
        at = rng.randrange(len(part))
        return part[:at] + part[at:at + 1] + part[at:]
    if kind == 3 and len(part) > 1:
        one, other = rng.sample(range(len(part)), 2)
        row = list(part)
        row[one], row[other] = row[other], row[one]
        return tuple(row)
    if kind == 4:
        return (*part, rng.choice([None, (), 0, 1, "a", part]))
    if kind == 5:
        return part[::-1]
    return (part,) if rng.random() < 0.5 else None


def records_in(web, parts):
    """A dict of Days by table if these are the parts of records of a web; otherwise None."""
    if type(parts) is not tuple or not all(type(pair) is tuple and len(pair) == 2 for pair in parts):
        return None
    names = [name for name, _ in parts]
    if not all(type(name) is str and name in web.tables for name in names) or names != sorted(set(names)):
        return None
    try:
        found = {name: Days.from_parts(told) for name, told in parts}
    except BadParts:
        return None
    return found if all(found.values()) else None


def is_closed(web, found):
    """Whether sets of days by table have, with each record, all that are made from it. They repeat soon."""
    period, ends = web.cycle.total, [0]
    for days in found.values():
        left, low, _, high, right = days.parts
        period = lcm(period, left[0], right[0])
        ends += [] if low is None else [low, high]
    if len(ends) > 1:
        ends = ends[1:]
    if period > 400 or max(ends) - min(ends) > 1000:
        raise ValueError("not for looking")
    first, end = min(ends) - 2 * period - 130, max(ends) + 2 * period + 130
    for name in web.tables:
        for day in range(first, end):
            for source, at in made_from(web, (name, day)):
                if source in found and at in found[source] and not (name in found and day in found[name]):
                    return False
    return True


def is_way(web, records, first, last):
    """Whether a value is a row of records of a web from one to another, each made from the one ahead."""
    if type(records) is not tuple or not records or len(records) > 5000:
        return False
    if not all(is_record(web, record) for record in records) or (records[0], records[-1]) != (first, last):
        return False
    return all(one in made_from(web, other) for one, other in zip(records, records[1:]))


def is_record(web, record):
    """Whether a value is a pair of a table and an integer."""
    if type(record) is not tuple or len(record) != 2:
        return False
    return type(record[0]) is str and record[0] in web.tables and type(record[1]) is int


def is_ring(web, records):
    """Whether a value is a ring of a web."""
    if type(records) is not tuple or not 2 <= len(records) <= 5000 or not all(is_record(web, record) for record in records):
        return False
    (table, day), (other, other_day) = records[0], records[-1]
    if table != other or other_day < day or (other_day - day) % web.cycle.total:
        return False
    return all(other in made_from(web, one) for one, other in zip(records, records[1:]))


def are_heights(web, rows):
    """Whether a value is the rows of heights of a web."""
    if type(rows) is not tuple or not all(type(row) is tuple and len(row) == 2 for row in rows):
        return False
    if [row[0] for row in rows] != list(web.tables):
        return False
    total = web.cycle.total
    for _, told in rows:
        if type(told) is not tuple or len(told) != total or not all(type(height) is int for height in told):
            return False
    found = dict(rows)
    wide = len(rows) * total
    return all(wide * day + found[table][day] > wide * at + found[name][at % total]
               for table, day in numbers(web) for name, at in made_from(web, (table, day)))


def parts_of_row(row, first, steady):
    """The parts of the set with these days: row[k] tells of the day first + k; from the index steady on it surely repeats.

    None if it has no day.
    """
    if True not in row:
        return None
    tail = "".join("1" if has else "0" for has in row[steady:])
    period = next(shorter for shorter in range(1, len(tail) // 2) if tail.startswith(tail[shorter:]))
    low, high = row.index(True), steady
    while high > low and row[high - 1] == row[high - 1 + period]:
        high -= 1
    rests = tuple(sorted((first + at) % period for at in range(steady, steady + period) if row[at]))
    middle = tuple(first + at for at in range(low, high) if row[at])
    return ((1, ()), first + low, middle, first + high, (period, rests))
