"""The bounds of the sets of days of one answer, all together, and the sets of records that they are."""
from math import lcm

from remadedays.days import Days
from remadedays.errors import TooMany
from remadedays.lines import MOST_DAYS, has_day, moved_line
from remadedays.masks import day_up_to
from remadedays.records import Records


def check_turns(lines, day, total, sign):
    """Refuses lines that, all together, repeat too far from the day of the record that they spread from.

    With the sign -1 they are those of the roots of the record.
    """
    period = total
    farthest = None
    for line in lines:
        if line[3] is not None and line[3] - line[1] > MOST_DAYS:
            raise TooMany("days", MOST_DAYS)
        if has_day(line):
            period = lcm(period, line[4][0] if sign > 0 else line[0][0])
            distance = repeats_from(line) - day if sign > 0 else day - line[1] + 1
            farthest = distance if farthest is None else max(int(distance), farthest)
    if period > MOST_DAYS or farthest + period > MOST_DAYS:
        raise TooMany("days", MOST_DAYS)


def repeats_from(line):
    """The least day from which on a line repeats that has a least day."""
    if line[3] > line[1]:
        return line[3]
    # The days ahead of the least one, which are not in the line, can repeat, too.
    return day_up_to(line[4], line[1] - 1) + 1


def records_of(lines, by):
    """The Records of a dict of lines by table, all moved by so many days."""
    return Records({table: Days(moved_line(lines[table], by)) for table in lines})


def sets_of(spread, day, rest, late):
    """For each value from 1 to 3 the Records of what has it in a Spread from a record of a day.

    The Spread is made for the rest of the day; nights up to so many behind the record's day are unlike.
    """
    turns = spread.find_turns(late)
    if turns is None:
        raise TooMany("days", MOST_DAYS)
    found = spread.lines(turns, (1, 2, 3))
    check_turns([line for lines in found for line in lines.values()], rest, spread.rounds.turn, spread.sign)
    return [records_of(lines, day - rest) for lines in found]
