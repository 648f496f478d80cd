"""The text of a rule or a keeping."""
from remadedays.words import words_of

MOST_NIGHTS = 4000
ALL_NIGHTS = "all"


def nights_text(values):
    """The text of told values by table, ascending."""
    if not values:
        return "none"
    return " ".join([f"{table} {value}" for table, value in values.items()])


def read_nights(text):
    """The values by table that a text tells, also those that need not be told."""
    words = words_of(text)
    values = {}
    # Alone the word none tells no table, ahead of a value it is the name of one.
    if words.is_alone("none"):
        return values
    table = words.take_name()
    values[table] = take_nights(words)
    while not words.is_over():
        table = words.take_name_above(table)
        values[table] = take_nights(words)
    return values


def take_nights(words):
    """The number of nights, or "all", that the next word of a line tells."""
    if words.is_ahead(ALL_NIGHTS):
        return words.take_one_of((ALL_NIGHTS,))
    return words.take_integer(0, MOST_NIGHTS)
