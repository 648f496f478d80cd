"""The day line of a set of days, as a tuple in its least form.

A line is (left, low, middle, high, right): left and right are patterns with their least
periods, for the days ahead of low and for the days from high on; middle is a mask whose place k
is the day low + k. A set that is periodic as a whole has low and high None, an empty middle
and left equal to right. So two sets have the same days exactly if their lines are equal.
"""
from math import lcm

from remadedays.errors import TooMany
from remadedays.masks import day_from, day_up_to, days_among, full, how_many, least_pattern, least_place
from remadedays.masks import mask_of, moved_pattern, other_pattern, repeated, window

MOST_DAYS = 4000


def whole_line(pattern):
    """The line of a set that is periodic as a whole."""
    least = least_pattern(pattern)
    return (least, None, 0, None, least)


def line_of(left, low, middle, high, right):
    """The least form of a line that is told over some low and high, with any periods."""
    left = least_pattern(left)
    right = least_pattern(right)
    told = (left, low, middle, high, right)
    # Patterns that agree on as many days as their periods have together agree on all days.
    length = high - low + left[0] + right[0]
    unlike = stretch(told, low, length) ^ window(left, low, length)
    if unlike == 0:
        return (left, None, 0, None, left)
    first = low + least_place(unlike)
    if first >= high:
        return (left, first, 0, first, right)
    unlike = stretch(told, first, high - first) ^ window(right, first, high - first)
    length = unlike.bit_length()
    return (left, first, stretch(told, first, length), first + length, right)


def line_of_days(days):
    """The line of a list of days."""
    if not days:
        return whole_line((1, 0))
    low = min([int(day) for day in days])
    high = max([int(day) for day in days]) + 1
    if high - low > MOST_DAYS:
        raise TooMany("days", MOST_DAYS)
    return ((1, 0), low, mask_of([day - low for day in days]), high, (1, 0))


def stretch(line, day, length):
    """The mask of the line's days from day on, for length days: place k is day + k."""
    left, low, middle, high, right = line
    if low is None:
        return window(left, day, length)
    ahead = clipped(low - day, length)
    behind = clipped(high - day, length)
    mask = window(left, day, ahead)
    if ahead < behind:
        part = (middle >> (day + ahead - low)) & full(behind - ahead)
        mask = mask | (part << ahead)
    return mask | (window(right, day + behind, length - behind) << behind)


def clipped(many, most):
    """The number from 0 to most that is nearest to many."""
    return max(0, min(int(most), many))


def joined(sign, one, other):
    """The line of two lines joined by a sign: one of & | ^ and - ."""
    left_period = shared_period(one[0], other[0])
    right_period = shared_period(one[4], other[4])
    low, high = shared_span(one, other)
    left = mixed(sign, turns_of(one[0], left_period), turns_of(other[0], left_period))
    if low is None:
        return whole_line((left_period, left))
    length = high - low
    middle = mixed(sign, stretch(one, low, length), stretch(other, low, length))
    right = mixed(sign, turns_of(one[4], right_period), turns_of(other[4], right_period))
    return line_of((left_period, left), low, middle, high, (right_period, right))


def shared_period(one, other):
    """The least period that two patterns have both, refused if it is too long."""
    period = lcm(one[0], other[0])
    if period > MOST_DAYS:
        raise TooMany("days", MOST_DAYS)
    return period


def shared_span(one, other):
    """From the lesser low to the greater high of two lines, refused if it is too far; None, None without any."""
    if one[1] is None:
        return other[1], other[3]
    if other[1] is None:
        return one[1], one[3]
    low = min(int(one[1]), other[1])
    high = max(int(one[3]), other[3])
    if high - low > MOST_DAYS:
        raise TooMany("days", MOST_DAYS)
    return low, high


def turns_of(pattern, length):
    """The mask of a pattern over a multiple of its period."""
    return repeated(pattern[1], pattern[0], length)


def mixed(sign, one, other):
    """Two masks joined by a sign."""
    if sign == "&":
        return one & other
    if sign == "|":
        return one | other
    if sign == "^":
        return one ^ other
    return one & ~other


def moved_line(line, by):
    """The line with each day moved by so many days."""
    left, low, middle, high, right = line
    left = moved_pattern(left, by)
    right = moved_pattern(right, by)
    if low is None:
        return (left, None, 0, None, right)
    return (left, low + by, middle, high + by, right)


def other_line(line):
    """The line of all other days."""
    left, low, middle, high, right = line
    left = other_pattern(left)
    right = other_pattern(right)
    if low is None:
        return (left, None, 0, None, right)
    return (left, low, middle ^ full(high - low), high, right)


def has_day(line):
    """Whether a line has a day."""
    return line[0][1] != 0 or line[2] != 0 or line[4][1] != 0


def is_on_line(line, day):
    """Whether a day is in a line."""
    return stretch(line, day, 1) == 1


def first_from(line, day):
    """The first day of a line from day on; None if there is none."""
    left, low, middle, high, right = line
    if low is None:
        return day_from(left, day)
    if day < low:
        found = day_from(left, day)
        if found is not None and found < low:
            return found
    begin = max(int(low), day)
    if begin < high:
        above = middle >> (begin - low)
        if above:
            return begin + least_place(above)
    return day_from(right, max(int(high), begin))


def last_up_to(line, day):
    """The last day of a line up to day; None if there is none."""
    left, low, middle, high, right = line
    if low is None:
        return day_up_to(left, day)
    if day >= high:
        found = day_up_to(right, day)
        if found is not None and found >= high:
            return found
    end = min(int(high) - 1, day)
    if end >= low:
        below = middle & full(end - low + 1)
        if below:
            return low + below.bit_length() - 1
    return day_up_to(left, min(int(low) - 1, end))


def least_of(line):
    """The least day of a line; None if there is none."""
    if line[0][1] != 0:
        return None
    # Ahead of low there is no day, and low is the first day that is unlike that.
    return line[1]


def greatest_of(line):
    """The greatest day of a line; None if there is none."""
    if line[3] is None or line[4][1] != 0:
        return None
    return last_up_to(line, line[3] - 1)


def count_on_line(line, a, b):
    """How many days of a line are from a to b - 1."""
    left, low, middle, high, right = line
    if b <= a:
        return 0
    if low is None:
        return days_among(left, a, b - a)
    ahead = clipped(low - a, b - a)
    behind = clipped(high - a, b - a)
    many = days_among(left, a, ahead) + days_among(right, a + behind, b - a - behind)
    if ahead < behind:
        part = (middle >> (a + ahead - low)) & full(behind - ahead)
        many = many + how_many(part)
    return many
