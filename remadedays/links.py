"""The tables and rests of a web as numbers, and the links between them.

The record of the table with the index k and of the rest r has the number k P + r, so numbers
are ordered as records are. A link of a number is a pair (number, days): a record of it is made
from a record of the other number that is so many days behind it.
"""


def links_of(web):
    """The list of the ascending lists of the links of each number."""
    total = web.cycle.total
    begin = begins_of(web.tables, total)
    found = []
    for table in web.tables:
        for day in range(total):
            found.append([(begin[name] + at % total, at - day) for name, at in web.sources(table, day)])
    return found


def begins_of(tables, total):
    """The number of each table's records of the rest 0."""
    return {table: at * total for at, table in enumerate(tables)}


def least_worths(links, factor, step):
    """The least worths from 0 on such that each number's is at least that of each link + factor * days + step.

    None if there are none.
    """
    worths = [0] * len(links)
    # A row of links without a number twice is shorter than this, so worths that still rise have no end.
    for _ in range(len(links) + 1):
        risen = False
        for at, sources in enumerate(links):
            for source, days in sources:
                least = worths[source] + factor * days + step
                if least > worths[at]:
                    worths[at] = least
                    risen = True
        if not risen:
            return worths
    return None


def steps_back(links, start, most):
    """The least number of links, at most so many, from a record to itself or a later one of its number.

    None if there is none.
    """
    farthest = {start: 0}
    reached = {start: 0}
    for steps in range(1, most + 1):
        ahead = {}
        for at, behind in reached.items():
            for source, days in links[at]:
                here = behind + days
                if source == start and here >= 0:
                    return steps
                # What a row of as few links reaches later in time is never worse.
                if source not in farthest or here > farthest[source]:
                    farthest[source] = here
                    ahead[source] = here
        reached = ahead
    return None


def farthest_ends(links, end, steps):
    """For each number of links from 0 to steps, a dict of those numbers from which a row of just so many links leads
    to the end: how many days later it leads at most.
    """
    found = [{end: 0}]
    for _ in range(steps):
        nearer = found[-1]
        farther = {}
        for at, sources in enumerate(links):
            for source, days in sources:
                if source in nearer and (at not in farther or nearer[source] + days > farther[at]):
                    farther[at] = nearer[source] + days
        found.append(farther)
    return found
