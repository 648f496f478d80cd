"""The text DAYS: str of a set, and Days.read."""
import random
import unittest

from daymodel import parts_by_looking, some_set, text_by_looking
from remadedays.days import Days
from remadedays.errors import BadText, TooMany
from samples import FAR, HOLDERS, NOT_DAYS, Checked

TEXTS = {
    "none": Days.none(),
    "every 1 0": Days.always(),
    "every 14 0": Days.every(14, 0),
    "every 7 1 3 6": Days.every(7, 1, 3, 6),
    "every 4000 0 3999": Days.every(4000, 0, 3999),
    "left 1 0 until -4": Days.until(-4),
    "left 7 2 5 until 15": Days.every(7, 2, 5) & Days.until(14),
    "days 5": Days.of([5]),
    "days -3 0 4": Days.of([0, -3, 4]),
    "right 1 0 from 3": Days.from_day(3),
    "right 14 0 from 0": Days.every(14, 0) & Days.from_day(0),
    "left 1 0 until 1 right 1 0 from 3": ~Days.of([2]),
    "left 3 0 until 2 days 5 7": Days.every(3, 0) & Days.until(0) | Days.of([5, 7]),
    "days 0 3 5 right 14 0 from 6": Days.of([3, 5]) | Days.every(14, 0) & Days.from_day(0),
    "left 2 0 until 3 days 5 6 right 4 0 3 from 7":
        Days.every(2, 0) & Days.until(3) | Days.of([5, 6]) | Days.every(4, 0, 3) & Days.from_day(7),
}
WORDS = ["none", "every", "left", "days", "right", "until", "from", "", "0", "1", "-1", "-0", "+1", "01", "00", "1.0", "1e3",
         "x", "7", "-7", "4000", "4001", "1_0", "9" * 60, "9" * 61, "-" + "9" * 60, "-" + "9" * 61, "1" + "0" * 60, "3\n",
         "\n", "None", "days\n", "NONE", "5,", "--5", "- 5", "\u0663", "\u00b2"]


def number(word, low, high):
    """The integer from low to high that str writes as a word; None if there is none."""
    if word.strip("-0123456789") or not word.strip("-") or len(word) > 61 or "-" in word[1:]:
        return None
    value = int(word)
    return value if str(value) == word and low <= value <= high else None


def follow(state, word):
    """The state of the reader behind one more word; None if the word cannot stand."""
    kind, period, least = state
    if kind == "start" or kind in ("closed left", "days"):
        starts = {"start": ["none", "every", "left", "days", "right"], "closed left": ["days", "right"], "days": ["right"]}
        if word in starts[kind]:
            return ("end" if word == "none" else "first day" if word == "days" else word, 0, 0)
    if kind in ("first day", "days"):
        value = number(word, -FAR if kind == "first day" else least, FAR)
        return None if value is None else ("days", 0, value + 1)
    if kind in ("every", "left", "right"):
        value = number(word, 1, 4000)
        return None if value is None else ("first rest " + kind, value, 0)
    if kind.startswith(("first rest", "rest")):
        side = kind.split(" ")[-1]
        if kind.startswith("rest") and word == {"left": "until", "right": "from"}.get(side):
            return ("close " + side, 0, 0)
        value = number(word, least, period - 1)
        return None if value is None else ("rest " + side, period, value + 1)
    if kind.startswith("close "):
        return None if number(word, -FAR, FAR) is None else ("closed left" if kind.endswith("left") else "end", 0, 0)
    return None


def wrong_word(text):
    """The index of the first word that cannot stand; None if the whole text can."""
    state = ("start", 0, 0)
    words = text.split(" ")
    for at, word in enumerate(words):
        state = follow(state, word)
        if state is None:
            return at
    return None if state[0] in ("end", "rest every", "closed left", "days") else len(words)


def spoiled(words):
    """Texts that differ from these words in one place."""
    for at in range(len(words) + 1):
        yield words[:at] + words[at + 1:]
        yield words[:at] + words[at:at + 1] + words[at:]
        for word in WORDS:
            yield words[:at] + [word] + words[at:]
            yield words[:at] + [word] + words[at + 1:]


class Written(Checked):

    def test_texts(self):
        for text, days in TEXTS.items():
            self.assertEqual(str(days), text)
            self.assertEqual(Days.read(text), days)

    def test_random_sets(self):
        rng = random.Random(7)
        for base in (0, -20, FAR - 60, 60 - FAR):
            for _ in range(150):
                days, has = some_set(rng, base)
                self.assertEqual(str(days), text_by_looking(parts_by_looking(has, base)))
                self.assertEqual(Days.read(text=str(days)), days)

    def test_days_of_more_than_60_digits_are_written_and_not_read(self):
        text = str(Days.of([FAR]) + 1)
        self.assertEqual(text, "days 1" + "0" * 60)
        self.refuses(BadText, {"line": 0, "word": 1}, Days.read, text)


class Read(Checked):

    def test_right_texts_that_are_not_the_least(self):
        told = {
            "days 1 2 right 1 0 from 3": "right 1 0 from 1",
            "left 2 0 until 4 days 6": "left 2 0 until 7",
            "every 6 0 2 4": "every 2 0",
            "every 4 0 1 2 3": "every 1 0",
            "left 1 0 until 3 right 1 0 from 4": "every 1 0",
            "left 1 0 until 3 right 1 0 from 1": "every 1 0",
            "left 1 0 until 3 right 1 0 from -5": "every 1 0",
            "left 4 0 2 until 4": "left 2 0 until 5",
            "left 1 0 until 9 days 3 4": "left 1 0 until 9",
            "days 3 right 1 0 from 1": "right 1 0 from 1",
            "right 2 1 from -4": "right 2 1 from -3",
            "right 14 0 from 1": "right 14 0 from 14",
            "days 9 right 14 0 from 1": "days 9 right 14 0 from 10",
            "left 7 3 until 5 days 10 right 7 3 from 11": "every 7 3",
        }
        for text, least in told.items():
            self.assertEqual(str(Days.read(text)), least)
            self.assertIsNone(wrong_word(text))

    def test_bounds_of_numbers(self):
        nines = "9" * 60
        self.assertEqual(Days.read(f"days -{nines} {2 - FAR}"), Days.of([-FAR, 2 - FAR]))
        self.assertEqual(Days.read(f"right 1 0 from {nines}"), Days.from_day(FAR))
        self.assertEqual(Days.read(f"left 1 0 until -{nines}"), Days.until(-FAR))
        self.assertEqual(Days.read(f"left 4000 3999 until {nines}").left_period, 4000)
        for text, word in ((f"days {nines}9", 1), (f"days -{nines}9", 1), (f"right 1 0 from 1{nines}", 4), ("every 0 0", 1),
                           ("every 4001 0", 1), ("every 7 7", 2), ("every 7 -1", 2), ("every 7 1 1", 3), ("every 7 2 1", 3),
                           ("days 3 3", 2), ("days 3 2", 2), ("days -2 -3", 2), ("days 01", 1), ("days -0", 1), ("days +1", 1),
                           ("days 00", 1), ("every 07 1", 1), ("every 1" + "0" * 70 + " 1", 1), ("days " + "5" * 1900, 1)):
            self.refuses(BadText, {"line": 0, "word": word}, Days.read, text)

    def test_missing_words(self):
        for text, word in (("", 0), ("every", 1), ("every 7", 2), ("left", 1), ("left 7", 2), ("left 7 1", 3), ("days", 1),
                           ("left 7 1 2", 4), ("left 7 1 until", 4), ("right 7", 2), ("right 7 1", 3), ("right 7 1 from", 4),
                           ("days 4 right", 3), ("left 1 0 until 3 days", 6), ("left 1 0 until 3 right 1", 7)):
            self.refuses(BadText, {"line": 0, "word": word}, Days.read, text)

    def test_words_too_many_and_in_a_wrong_order(self):
        for text, word in (("none none", 1), ("none ", 1), (" none", 0), ("none\n", 0), ("\nnone", 0), ("every  7 0", 1),
                           ("every 7 0 ", 3), ("every 7 0 until 3", 3), ("every 7 until", 2), ("left 7 until 3", 2),
                           ("left 7 0 from 3", 3), ("right 7 0 until 3", 3), ("right 7 0 from 3 days 3", 5), ("days until", 1),
                           ("days 3 left 1 0 until 2", 2), ("left 1 0 until 3 left 1 0 until 4", 5), ("days 3 days 4", 2),
                           ("left 1 0 until 3 none", 5), ("left 1 0 until 3 4", 5), ("right 1 0 from 3 4", 5), ("days\n3", 0),
                           ("left 7 6 7 until 3", 3), ("days 3\nright 1 0 from 4", 1), ("Every 7 0", 0)):
            self.refuses(BadText, {"line": 0, "word": word}, Days.read, text)

    def test_each_spoiled_text(self):
        for text in TEXTS:
            for words in spoiled(text.split(" ")):
                other = " ".join(words)
                word = wrong_word(other)
                if word is None:
                    self.read_or_too_many(other)
                else:
                    self.refuses(BadText, {"line": 0, "word": word}, Days.read, other)

    def read_or_too_many(self, text):
        try:
            found = Days.read(text)
        except TooMany as error:
            self.assertEqual((error.what, error.most), ("days", 4000))
        else:
            self.assertEqual(Days.from_parts(found.parts), found)

    def test_no_string(self):
        for value in [*NOT_DAYS, *HOLDERS, 0, 5, ["none"], ("none",)]:
            if not isinstance(value, str):
                self.refuses(BadText, {"line": 0, "word": 0}, Days.read, value)

    def test_too_many_as_any_of(self):
        for text in ("days 0 4000", "left 1 0 until 0 days 4001", "left 63 0 until 0 right 1 0 from 4064",
                     "left 63 0 until 0 days 5 9999", f"days -{FAR} {FAR}", "days 0 right 1 0 from 4001"):
            self.refuses(TooMany, {"what": "days", "most": 4000}, Days.read, text)
        self.assertEqual(Days.read("left 1 0 until 0 days 4000").parts[1:4:2], (1, 4001))
        self.assertEqual(Days.read("left 3999 0 until 0 right 4000 0 from 1").right_period, 4000)
        self.assertEqual(str(Days.read("days 0 3999")), "days 0 3999")

    def test_pieces_are_sets_of_their_own(self):
        # The told piece on the right begins on day 7998 only, so it is too far from day 0.
        one = (Days.every(4000, 3998) | Days.of([0, 3999])) - Days.until(-1)
        self.assertEqual(str(one), "days 0 3998 3999 right 4000 3998 from 4000")
        self.refuses(TooMany, {"what": "days", "most": 4000}, Days.read, str(one))
        self.assertEqual(Days.from_parts(one.parts), one)

    def test_bad_text_ahead_of_too_many(self):
        self.refuses(BadText, {"line": 0, "word": 3}, Days.read, "days 0 4000 4000")
        self.refuses(BadText, {"line": 0, "word": 3}, Days.read, "days 0 4000 none")
        self.refuses(BadText, {"line": 0, "word": 7}, Days.read, "left 1 0 until 0 days 9999 ")


if __name__ == "__main__":
    unittest.main()
