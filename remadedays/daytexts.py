"""The text DAYS of a set of days."""
from remadedays.kinds import BEYOND
from remadedays.lines import MOST_DAYS
from remadedays.words import words_of

FORMS = ("none", "every", "left", "days", "right")


def days_text(parts):
    """The text of the set with these parts."""
    left, low, days, high, right = parts
    if low is None:
        return pattern_text("every", left) if left[1] else "none"
    found = []
    if left[1]:
        found.append(pattern_text("left", left) + f" until {low - 1}")
    if days:
        found.append(" ".join(["days", *[str(day) for day in days]]))
    if right[1]:
        found.append(pattern_text("right", right) + f" from {high}")
    return " ".join(found)


def pattern_text(word, pattern):
    """A word and the period and the rests of a pattern."""
    period, rests = pattern
    return " ".join([word, str(period), *[str(rest) for rest in rests]])


def read_pieces(text):
    """The pieces of a text DAYS in their order: tuples of a word, an end (a day, or None), a period and rests.

    Told days have the period 0 and stand in the place of the rests.
    """
    words = words_of(text)
    word = words.take_one_of(FORMS)
    pieces = []
    if word == "every":
        pieces.append(take_pattern(words, word, None))
    elif word != "none":
        pieces.append(take_piece(words, word))
        while not words.is_over():
            word = words.take_one_of(FORMS[FORMS.index(word) + 1:])
            pieces.append(take_piece(words, word))
    words.take_end()
    return pieces


def take_piece(words, word):
    """The piece behind one of the words left, days, right."""
    if word == "left":
        return take_pattern(words, word, "until")
    if word == "right":
        return take_pattern(words, word, "from")
    days = [words.take_day()]
    while not words.is_over() and not words.is_ahead("right"):
        days.append(words.take_integer(days[-1] + 1, BEYOND - 1))
    return (word, None, 0, days)


def take_pattern(words, word, closing):
    """A period and its rests, up to a closing word and its day; to the end of the line without one."""
    period = words.take_integer(1, MOST_DAYS)
    rests = [words.take_integer(0, period - 1)]
    if closing is None:
        while not words.is_over():
            rests.append(words.take_integer(rests[-1] + 1, period - 1))
        return (word, None, period, rests)
    while not words.is_ahead(closing):
        rests.append(words.take_integer(rests[-1] + 1, period - 1))
    words.take_one_of((closing,))
    return (word, words.take_day(), period, rests)
