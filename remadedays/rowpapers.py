"""Rows of records and of heights in papers."""
from remadedays.kinds import is_whole
from remadedays.links import begins_of, links_of
from remadedays.setpapers import MOST_ITEMS


def are_records(web, records, least):
    """Whether a value is a tuple of at least so many records of a web, of days of any size."""
    if not isinstance(records, tuple) or not least <= len(records) <= MOST_ITEMS:
        return False
    return all([is_record(web, record) for record in records])


def is_record(web, record):
    """Whether a value is a record of a web, of a day of any size."""
    return isinstance(record, tuple) and len(record) == 2 and record[0] in web and is_whole(record[1])


def are_made_in_turn(web, records):
    """Whether each one of some records is made from the next one."""
    total = web.cycle.total
    begin = begins_of(web.tables, total)
    links = links_of(web)
    for at in range(len(records) - 1):
        table, day = records[at]
        source, other = records[at + 1]
        if (begin[source] + other % total, other - day) not in links[begin[table] + day % total]:
            return False
    return True


def is_ring(web, records):
    """Whether a value is a ring of a web."""
    if not are_records(web, records, 2):
        return False
    table, day = records[0]
    other, other_day = records[-1]
    if table != other or other_day < day or (other_day - day) % web.cycle.total != 0:
        return False
    return are_made_in_turn(web, records)


def are_heights(web, rows):
    """Whether a value is the rows of heights of a web, by table."""
    if not isinstance(rows, tuple) or len(rows) != len(web):
        return False
    worths = []
    for at, table in enumerate(web.tables):
        if not is_row_of(table, rows[at], web.cycle.total):
            return False
        worths.extend(rows[at][1])
    return are_above_sources(links_of(web), worths)


def is_row_of(table, row, total):
    """Whether a value is a pair of the table and a tuple of so many integers."""
    if not isinstance(row, tuple) or len(row) != 2 or row[0] != table:
        return False
    worths = row[1]
    return isinstance(worths, tuple) and len(worths) == total and all([is_whole(worth) for worth in worths])


def are_above_sources(links, worths):
    """Whether the worth of each number is above that of each link, with its days."""
    for at, sources in enumerate(links):
        for source, days in sources:
            if worths[at] <= len(links) * days + worths[source]:
                return False
    return True
