"""Texts of webs and lines of the desk, word by word: which word is the first one that cannot stand."""
import re

from remadedays.ties import Tie

LENGTH = "[1-9]|[1-5][0-9]|60"
BACK = f"0|{LENGTH}"
NAME = "[a-z]{1,8}"
NUMBER = "0|[1-9][0-9]{0,59}"
DAY = f"{NUMBER}|-[1-9][0-9]{{0,59}}"
NIGHTS = "0|[1-9][0-9]{0,2}|[1-3][0-9]{3}|4000|all"
# For each line of the desk but those of cycles and tables what its words are.
DESK = {"drop": [NAME], "rule": [NAME, NIGHTS], "keep": [NAME, NIGHTS], "undo": [], "show": [], "hung": [NAME, DAY],
        "roots": [NAME, DAY], "sound": [], "settled": [NAME, DAY, NUMBER], "state": [NAME, DAY, NUMBER, NAME, DAY],
        "stands": [],
        "least": [f"{NUMBER}|all"], "lots": [NAME, DAY, NUMBER, NUMBER]}


def fits(pattern, words, at):
    """Whether there is a word with this index, and it is of the pattern."""
    return at < len(words) and re.fullmatch(pattern, words[at]) is not None


def wrong_in_lengths(words):
    """The index of the first wrong word of a line of lengths; None if there is none."""
    for at in range(1, max(len(words), 2)):
        if not fits(LENGTH, words, at):
            return at
    return None


def wrong_in_table(words, above):
    """The index of the first wrong word of a line of a table, the name of which is above this one."""
    if not fits(NAME, words, 1) or words[1] <= above:
        return 1
    at = 2
    while at < len(words):
        if words[at] != "from":
            return at
        if not fits("back|ahead|sofar|whole|last|same", words, at + 1):
            return at + 1
        if words[at + 1] in ("back", "ahead"):
            if not fits(BACK if words[at + 1] == "back" else LENGTH, words, at + 2):
                return at + 2
            at += 1
        if not fits(NAME, words, at + 2):
            return at + 2
        at += 3
    return None


def wrong_in_web(text):
    """The (line, word) of the first wrong word of a text of a web; None if there is none."""
    if not isinstance(text, str):
        return (0, 0)
    above = ""
    for row, line in enumerate(text.split("\n")):
        words = line.split(" ")
        if words[0] != ("table" if row else "cycle"):
            return (row, 0)
        at = wrong_in_table(words, above) if row else wrong_in_lengths(words)
        if at is not None:
            return (row, at)
        above = words[1] if row else ""
    return None


def wrong_in_line(line):
    """The index of the first wrong word of a line of the desk; None if there is none."""
    if not isinstance(line, str):
        return 0
    words = line.split(" ")
    if words[0] == "cycle":
        return wrong_in_lengths(words)
    if words[0] == "table":
        return wrong_in_table(words, "")
    if words[0] not in DESK:
        return 0
    patterns = DESK[words[0]]
    for at, pattern in enumerate(patterns):
        if not fits(pattern, words, at + 1):
            return at + 1
    return len(patterns) + 1 if len(words) > len(patterns) + 1 else None


def other_word(rng, word):
    """Another word, which can or cannot stand in the place of one."""
    return rng.choice([word + "x", word[:-1], "-" + word, "0" + word, "+" + word, word.upper(), word + "0", word + "\n", "",
                       "0", "1", "60",
                       "61", "-1", "-0", "00", "7", "a", "b", "table", "from", "back", "ahead", "sofar", "whole", "last",
                       "same", "cycle",
                       "all", "none", "abcdefghi", "4000", "4001", "9" * 60, "1" + "0" * 60, "-" + "9" * 60, "1_0", "1.0", " ",
                       "\t"])


def changed_words(rng, words):
    """A list of words with one left out, put in, doubled, exchanged or changed."""
    words = list(words)
    at = rng.randrange(len(words))
    kind = rng.randrange(7)
    if kind == 0:
        del words[at]
    elif kind == 1:
        words.insert(rng.randint(0, len(words)), other_word(rng, words[at]))
    elif kind == 2:
        words.insert(at, words[at])
    elif kind == 3:
        other = rng.randrange(len(words))
        words[at], words[other] = words[other], words[at]
    elif kind == 4:
        words = words[:at]
    else:
        words[at] = other_word(rng, words[at])
    return words


def changed_text(rng, text):
    """A text with one word or one line otherwise."""
    rows = text.split("\n")
    if rng.random() < 0.25:
        return "\n".join(changed_words(rng, rows)) if rng.random() < 0.8 else text + rng.choice(["\n", " ", "\n ", "\n\n"])
    at = rng.randrange(len(rows))
    rows[at] = " ".join(changed_words(rng, rows[at].split(" ")))
    return "\n".join(rows)


def ties_of(words):
    """The ties of the words behind the name of a table."""
    ties, at = [], 0
    while at < len(words):
        many = 3 if words[at + 1] in ("back", "ahead") else 2
        ties.append(Tie.read(" ".join(words[at + 1:at + 1 + many])))
        at += 1 + many
    return ties
