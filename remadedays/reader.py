"""The reader of the texts of webs."""
from remadedays.cycles import Cycle, take_lengths
from remadedays.errors import BadText
from remadedays.ties import take_ties
from remadedays.webs import Web
from remadedays.words import Words


def read_web(text):
    """The web with this text."""
    if not isinstance(text, str):
        raise BadText(0, 0)
    rows = text.split("\n")
    words = Words(rows[0], 0)
    words.take_one_of(("cycle",))
    lengths = take_lengths(words)
    tables = {}
    # Each name is above the empty one.
    name = ""
    for at in range(1, len(rows)):
        words = Words(rows[at], at)
        words.take_one_of(("table",))
        name = words.take_name_above(name)
        tables[name] = take_ties(words)
    # All words come ahead of what they make.
    return Web.of(Cycle.of(lengths), tables)
