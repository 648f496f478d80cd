"""Sets of records in papers, and how far they go together."""
from math import lcm

from remadedays.dayparts import line_of_parts
from remadedays.lines import MOST_DAYS, has_day

MOST_ITEMS = 5000
# A middle can be longer here than that of any set of days.
MOST_SPAN = 5000


def told_behind(paper, word, many):
    """The tuple of what a paper tells behind this first word, if it tells so many things; None for any other value."""
    if not isinstance(paper, tuple) or len(paper) != many + 1 or paper[0] != word:
        return None
    return paper[1:]


def lines_of_sets(web, many):
    """For each of some parts of sets of records a dict of lines by table; None if one of them is no such parts."""
    found = []
    for parts in many:
        lines = lines_of_records(web, parts)
        if lines is None:
            return None
        found.append(lines)
    return found


def lines_of_records(web, parts):
    """A dict of the lines of the set of records of a web with these parts, by table; None for any other value."""
    if not isinstance(parts, tuple):
        return None
    lines = {}
    # Each name is above the empty one.
    above = ""
    for pair in parts:
        if not isinstance(pair, tuple) or len(pair) != 2:
            return None
        table, told = pair
        if table not in web or table <= above:
            return None
        line = line_of_parts(told, MOST_SPAN)
        if line is None or not has_day(line):
            return None
        lines[table] = line
        above = table
    return lines


def goes_left(lines):
    """Whether one of the lines by table goes on to the left."""
    return any([line[0][1] != 0 for line in lines.values()])


def reach_of(total, lines, day):
    """How far some lines go together, as (low, high, period): ahead of low and from high on all of them only repeat.

    None if that is more than a looker looks at. The day stands for low and high if no line has them.
    """
    period = total
    lows = []
    highs = []
    for line in lines:
        period = lcm(period, line[0][0], line[4][0])
        if line[1] is not None:
            lows.append(line[1])
            highs.append(line[3])
    if period > MOST_DAYS:
        return None
    if not lows:
        return (day, day, period)
    low = min([int(at) for at in lows])
    high = max([int(at) for at in highs])
    return (low, high, period) if high - low <= MOST_SPAN else None
