"""The parts of a set of days: a paper of tuples, integers and None."""
from remadedays.kinds import is_between, is_whole
from remadedays.lines import MOST_DAYS, line_of, whole_line
from remadedays.masks import mask_of, places_of


def parts_of(line):
    """The parts that tell a line."""
    left, low, middle, high, right = line
    days = tuple([low + place for place in places_of(middle)])
    return (rests_of(left), low, days, high, rests_of(right))


def rests_of(pattern):
    """A pattern as the pair of its period and its ascending rests."""
    return (pattern[0], places_of(pattern[1]))


def line_of_parts(parts, most):
    """The line that these parts tell, with a middle of at most so many days; None for a value that is no such parts."""
    if not isinstance(parts, tuple) or len(parts) != 5:
        return None
    left, low, days, high, right = parts
    if not is_rests(left) or not is_rests(right):
        return None
    if low is None:
        line = whole_line(pattern_of(left))
    elif is_middle(low, days, high, most):
        middle = mask_of([day - low for day in days])
        line = line_of(pattern_of(left), low, middle, high, pattern_of(right))
    else:
        return None
    # Only the least form is told: other parts of the same set are not its parts.
    return line if parts_of(line) == parts else None


def is_rests(pair):
    """Whether a value is a pair of a period and ascending rests below it."""
    if not isinstance(pair, tuple) or len(pair) != 2:
        return False
    period, rests = pair
    return is_between(period, 1, MOST_DAYS) and is_ascending(rests, 0, period)


def is_middle(low, days, high, most):
    """Whether these are the bounds of a middle of at most so many days, and its ascending days."""
    if not is_whole(low) or not is_whole(high):
        return False
    return 0 <= high - low <= most and is_ascending(days, low, high)


def is_ascending(values, low, high):
    """Whether a value is an ascending tuple of integers from low to high - 1."""
    if not isinstance(values, tuple):
        return False
    for value in values:
        if not is_between(value, low, high - 1):
            return False
        low = value + 1
    return True


def pattern_of(pair):
    """The pattern of a period and its rests."""
    return (pair[0], mask_of(pair[1]))
