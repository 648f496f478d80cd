"""Tables of values, and records in order."""
from remadedays.errors import BadName, BadTable
from remadedays.kinds import is_name


def names_of(values):
    """The ascending list of the names of a table of values; refuses what is none."""
    if not isinstance(values, dict):
        raise BadTable(values)
    for key in values:
        if not is_name(key):
            raise BadName(key)
    return sorted([str(name) for name in values])


def in_order(records):
    """The ascending tuple of some records, each once."""
    days_of = {}
    for table, day in records:
        days_of.setdefault(table, []).append(day)
    found = []
    for name in sorted([str(key) for key in days_of]):
        once = {at: True for at in days_of[name]}
        found.extend([(name, at) for at in sorted([int(key) for key in once])])
    return tuple(found)
