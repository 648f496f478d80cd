"""Papers: answers told in tuples, strings, integers and None, for the lookers to go through."""
from remadedays.hung import hung, way
from remadedays.rings import heights, ring
from remadedays.settled import settled


def hung_paper(web, table, day):
    """The paper of what hangs on a record."""
    return ("hung", hung(web, table, day).parts)


def way_paper(web, table, day, other, other_day):
    """The paper of a way from a record to another one; if that does not hang on it, of what does."""
    records = way(web, table, day, other, other_day)
    if records is None:
        return ("apart", hung(web, table, day).parts)
    return ("way", records)


def sound_paper(web):
    """The paper of a ring of a web, or of its least heights."""
    records = ring(web)
    if records is not None:
        return ("ring", records)
    found = heights(web)
    rests = range(web.cycle.total)
    return ("heights", tuple([(table, tuple([found[table, rest] for rest in rests])) for table in web.tables]))


def settled_paper(web, rule, keeping, table, day, late):
    """The paper of what becomes of a correction."""
    found = settled(web, rule, keeping, table, day, late)
    return ("settled", found.right.parts, found.stale.parts, found.half.parts)
