"""Patterns of days as bits of integers.

A mask is an integer from 0 on; its place k is in it if its bit k is 1. A pattern is a pair
(period, mask): a day is in it if the place of the day's remainder by the period is in the mask.
"""


def full(length):
    """The mask with all places below length."""
    return (1 << length) - 1


def mask_of(places):
    """The mask with just these places."""
    mask = 0
    for place in places:
        mask = mask | (1 << place)
    return mask


def places_of(mask):
    """The ascending tuple of the places in a mask."""
    signs = f"{mask:b}"
    return tuple([place for place, sign in enumerate(signs[::-1]) if sign == "1"])


def how_many(mask):
    """How many places are in a mask."""
    signs = f"{mask:b}"
    return signs.count("1")


def least_place(mask):
    """The least place in a mask that is not empty."""
    return (mask & -mask).bit_length() - 1


def repeated(mask, period, length):
    """The first length places of a mask of period places that is laid end to end."""
    times = (length + period - 1) // period
    ends = full(times * period) // full(period)
    return (mask * ends) & full(length)


def turned(mask, period, by):
    """The mask whose place k is place k + by of the given one, both laid end to end."""
    cut = by % period
    return (mask >> cut) | ((mask & full(cut)) << (period - cut))


def window(pattern, day, length):
    """The mask of the pattern's days from day on, for length days: place k is day + k."""
    period, mask = pattern
    return repeated(turned(mask, period, day), period, length)


def least_pattern(pattern):
    """The pattern of the same days with the least period."""
    period, mask = pattern
    for shorter in range(1, period // 2 + 1):
        if period % shorter == 0:
            part = mask & full(shorter)
            if repeated(part, shorter, period) == mask:
                return (shorter, part)
    return pattern


def moved_pattern(pattern, by):
    """The pattern with each day moved by so many days."""
    period, mask = pattern
    return (period, turned(mask, period, -by))


def other_pattern(pattern):
    """The pattern of all other days."""
    period, mask = pattern
    return (period, mask ^ full(period))


def day_from(pattern, day):
    """The first day of a pattern from day on; None if it has no day."""
    period, mask = pattern
    if mask == 0:
        return None
    rest = day % period
    above = mask >> rest
    if above:
        return day + least_place(above)
    return day - rest + period + least_place(mask)


def day_up_to(pattern, day):
    """The last day of a pattern up to day; None if it has no day."""
    period, mask = pattern
    if mask == 0:
        return None
    rest = day % period
    below = mask & full(rest + 1)
    if below:
        return day - rest + below.bit_length() - 1
    return day - rest - period + mask.bit_length() - 1


def days_among(pattern, day, length):
    """How many of the length days from day on are in a pattern."""
    period, mask = pattern
    turns = length // period
    return turns * how_many(mask) + how_many(window(pattern, day, length % period))
