"""What the words day and name mean, for any value."""

# The least integer from 0 on that has more than 60 digits.
BEYOND = 10 ** 60


def is_whole(value):
    """Whether a value is an integer; True and False are none here."""
    return isinstance(value, int) and not isinstance(value, bool)


def is_between(value, low, high):
    """Whether a value is an integer from low to high."""
    return is_whole(value) and low <= value <= high


def is_day(value):
    """Whether a value is an integer with at most 60 digits."""
    return is_between(value, 1 - BEYOND, BEYOND - 1)


def is_name(value):
    """Whether a value is a string of 1 to 8 letters from a to z."""
    if not isinstance(value, str) or len(value) > 8:
        return False
    return value.isascii() and value.isalpha() and value.islower()
