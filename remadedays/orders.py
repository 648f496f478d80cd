"""The lines of the desk: the first word of each, and what the other words tell."""
from remadedays.cycles import take_lengths
from remadedays.errors import BadLine, BadText
from remadedays.kinds import BEYOND
from remadedays.nighttexts import ALL_NIGHTS, take_nights
from remadedays.ties import take_ties
from remadedays.words import Words

# What the words behind the first one tell, one for each. The lines of a cycle and of a table go on.
SHAPES = {
    "cycle": (),
    "table": ("name",),
    "drop": ("name",),
    "rule": ("name", "nights"),
    "keep": ("name", "nights"),
    "undo": (),
    "show": (),
    "hung": ("name", "day"),
    "roots": ("name", "day"),
    "sound": (),
    "settled": ("name", "day", "number"),
    "state": ("name", "day", "number", "name", "day"),
    "stands": (),
    "least": ("number or all",),
    "lots": ("name", "day", "number", "number"),
}


def read_order(line):
    """The first word of a line and the list of what the others tell, with a table's ties as one list."""
    if not isinstance(line, str):
        raise BadLine(0)
    try:
        return take_order(Words(line, 0))
    except BadText as wrong:
        raise BadLine(wrong.word) from None


def take_order(words):
    """The first word and what the others tell, of a whole line."""
    first = words.take_one_of(list(SHAPES))
    told = [take_told(words, kind) for kind in SHAPES[first]]
    if first == "cycle":
        told = take_lengths(words)
    if first == "table":
        told.append(take_ties(words))
    words.take_end()
    return first, told


def take_told(words, kind):
    """What the next word tells, which is of this kind."""
    if kind == "name":
        return words.take_name()
    if kind == "day":
        return words.take_day()
    if kind == "nights":
        return take_nights(words)
    if kind == "number or all" and words.is_ahead(ALL_NIGHTS):
        words.take_one_of((ALL_NIGHTS,))
        return None
    return words.take_integer(0, BEYOND - 1)
