"""Ties: their names and numbers, sources, users, texts."""
import random
import unittest

from remadedays.cycles import Cycle
from remadedays.errors import BadName, BadNumber, BadText
from remadedays.ties import Ahead, Back, Last, Numbered, Same, Sofar, Tie, Whole
from samples import FAR, HOLDERS, NAMES, NOT_DAYS, NOT_NAMES, Checked
from test_cycles import ROWS, blocks

PLAIN = {"sofar": Sofar, "whole": Whole, "last": Last, "same": Same}
NUMBERED = {"back": Back, "ahead": Ahead}


def each_tie(source="a"):
    """Ties of all six classes."""
    return [*[kind(source) for kind in PLAIN.values()], *[Back(source, k) for k in (0, 1, 7, 60)],
            *[Ahead(source, k) for k in (1, 5, 60)]]


def told(tie, day, table):
    """The days from which a record of the day is made, told by a table of the blocks of the days."""
    if isinstance(tie, Back):
        return (day - tie.number,)
    if isinstance(tie, Ahead):
        return (day + tie.number,)
    block, first, _ = table[day]
    mine = [other for other in sorted(table) if table[other][0] == block]
    before = [other for other in sorted(table) if table[other][0] == block - 1]
    if isinstance(tie, Sofar):
        return tuple(other for other in mine if other <= day)
    if isinstance(tie, Whole):
        return tuple(before)
    if isinstance(tie, Last):
        return (before[-1],)
    return tuple(before[day - first:day - first + 1])


class Made(Checked):

    def test_classes(self):
        for kind in (Back, Ahead, Sofar, Whole, Last, Same):
            self.assertTrue(issubclass(kind, Tie))
            self.assertEqual(issubclass(kind, Numbered), kind in (Back, Ahead))
            for other in (Back, Ahead, Sofar, Whole, Last, Same):
                self.assertEqual(issubclass(kind, other), kind is other)
        self.assertFalse(issubclass(Numbered, Tie) or issubclass(Tie, Numbered))

    def test_attributes(self):
        for name in NAMES:
            for kind in PLAIN.values():
                self.assertEqual(vars(kind(name)), {"source": name})
                self.assertEqual(vars(kind(source=name)), {"source": name})
            for number in (1, 2, 59, 60):
                for kind in NUMBERED.values():
                    self.assertEqual(vars(kind(name, number)), {"source": name, "number": number})
                    self.assertEqual(vars(kind(number=number, source=name)), {"source": name, "number": number})
        self.assertEqual(Back("a", 0).number, 0)

    def test_wrong_names(self):
        for value in NOT_NAMES:
            for kind in PLAIN.values():
                self.refuses(BadName, {"value": value}, kind, value)
                self.refuses(BadName, {"value": value}, kind, source=value)
            for kind in NUMBERED.values():
                self.refuses(BadName, {"value": value}, kind, value, 3)
                self.refuses(BadName, {"value": value}, kind, value, None)
                self.refuses(BadName, {"value": value}, kind, number=61, source=value)

    def test_wrong_numbers(self):
        for value in [-1, 61, FAR, -FAR, *NOT_DAYS]:
            for kind in NUMBERED.values():
                self.refuses(BadNumber, {"value": value}, kind, "a", value)
                self.refuses(BadNumber, {"value": value}, kind, source="a", number=value)
        self.refuses(BadNumber, {"value": 0}, Ahead, "a", 0)
        self.refuses(BadNumber, {"value": False}, Back, "a", False)
        self.refuses(BadNumber, {"value": True}, Ahead, "a", True)

    def test_equal(self):
        for at, tie in enumerate(each_tie()):
            for k, other in enumerate(each_tie()):
                self.assertIs(tie == other, at == k)
                self.assertIs(tie != other, at != k)
            for other in each_tie("b"):
                self.assertIs(tie == other, False)
            for value in [*NOT_DAYS, 3, "a", str(tie), ("a", 3)]:
                if not isinstance(value, Tie):
                    self.assertIs(tie == value, False)
                    self.assertIs(value == tie, False)
        self.assertIs(Back("a", 1) == Ahead("a", 1), False)


class Days(Checked):

    def test_near_days(self):
        for lengths in ROWS:
            cycle = Cycle(*lengths)
            table = blocks(lengths, -260, 260)
            days = range(-130, 130) if sum(lengths) > 30 else range(-20, 20)
            for tie in each_tie():
                for day in days:
                    found = tie.sources(day, cycle)
                    self.assertEqual(found, told(tie, day, table))
                    self.assertEqual(tie(day, cycle), found)

    def test_users_are_sources_turned_about(self):
        for lengths in ROWS:
            cycle = Cycle(*lengths)
            for tie in each_tie():
                found = {day: [] for day in range(-250, 250)}
                for day in range(-250, 250):
                    for source in tie.sources(day, cycle):
                        if source in found:
                            found[source].append(day)
                for day in range(-130, 130):
                    self.assertEqual(tie.users(day, cycle), tuple(found[day]))

    def test_all_moves_by_whole_cycles(self):
        rng = random.Random(9)
        for lengths in ROWS:
            cycle, total = Cycle(*lengths), sum(lengths)
            for tie in each_tie():
                for day in [FAR, -FAR, 10 ** 59] + [rng.randint(-FAR, FAR) for _ in range(10)]:
                    rest = day % total
                    self.assertEqual(tie.sources(day, cycle), tuple(k + day - rest for k in tie.sources(rest, cycle)))
                    self.assertEqual(tie(day, cycle), tuple(k + day - rest for k in tie(rest, cycle)))
                    self.assertEqual(tie.users(day, cycle), tuple(k + day - rest for k in tie.users(rest, cycle)))

    def test_days_beyond_60_digits(self):
        self.assertEqual(Back("a", 60).sources(-FAR, Cycle(7)), (-FAR - 60,))
        self.assertEqual(Ahead("a", 60).sources(FAR, Cycle(7)), (FAR + 60,))
        begin = -FAR - -FAR % 60
        self.assertEqual(Whole("a").sources(-FAR, Cycle(60)), tuple(range(begin - 60, begin)))
        self.assertEqual(Last("a").sources(-FAR, Cycle(60)), (begin - 1,))

    def test_by_name(self):
        for tie in each_tie():
            cycle = Cycle(3, 4)
            self.assertEqual(tie.sources(cycle=cycle, day=2), tie.sources(2, cycle))
            self.assertEqual(tie.users(cycle=cycle, day=2), tie.users(2, cycle))
            self.assertEqual(tie(cycle=cycle, day=2), tie(2, cycle))


def wrong_word(text):
    """The index of the first word that cannot stand in the text of a tie; None if all can."""
    words = text.split(" ")
    if words[0] not in (*PLAIN, *NUMBERED):
        return 0
    if words[0] in NUMBERED:
        low = 0 if words[0] == "back" else 1
        if len(words) < 2 or words[1] not in [str(k) for k in range(low, 61)]:
            return 1
    at = 2 if words[0] in NUMBERED else 1
    if len(words) <= at or not 1 <= len(words[at]) <= 8 or words[at].strip("abcdefghijklmnopqrstuvwxyz"):
        return at
    return at + 1 if len(words) > at + 1 else None


class Texts(Checked):

    def test_right_texts(self):
        for name in NAMES:
            for word, kind in PLAIN.items():
                self.assertEqual(str(kind(name)), f"{word} {name}")
                self.assertEqual(Tie.read(f"{word} {name}"), kind(name))
                self.assertIs(type(Tie.read(text=f"{word} {name}")), kind)
            for number in (1, 9, 10, 60):
                for word, kind in NUMBERED.items():
                    self.assertEqual(str(kind(name, number)), f"{word} {number} {name}")
                    self.assertEqual(Tie.read(f"{word} {number} {name}"), kind(name, number))
        self.assertEqual(Tie.read("back 0 back"), Back("back", 0))
        self.assertEqual(str(Back("back", 0)), "back 0 back")

    def test_spoiled_texts(self):
        others = ["", "back", "ahead", "sofar", "whole", "last", "same", "a", "abcdefghi", "A", "a1", "0", "1", "60", "61", "-1",
                  "-0", "01", "+1", "1.0", "x\n", "\n", "9" * 61, "from", "table", "3 ", "Back"]
        for tie in each_tie():
            words = str(tie).split(" ")
            for at in range(len(words) + 1):
                spoiled = [words[:at] + words[at + 1:], words[:at] + words[at:at + 1] + words[at:]]
                for word in others:
                    spoiled += [words[:at] + [word] + words[at:], words[:at] + [word] + words[at + 1:]]
                for text in map(" ".join, spoiled):
                    if wrong_word(text) is None:
                        self.assertEqual(str(Tie.read(text)), text)
                    else:
                        self.refuses(BadText, {"line": 0, "word": wrong_word(text)}, Tie.read, text)

    def test_words_that_cannot_stand(self):
        for text, word in (("", 0), ("back", 1), ("back a", 1), ("back 3", 2), ("back 61 a", 1), ("ahead 0 a", 1), ("last", 1),
                           ("last a b", 2), ("back 3 a b", 3), ("last a ", 2), ("last  a", 1), (" last a", 0), ("last\na", 0),
                           ("last a\n", 1), ("sofar 3 a", 1), ("tie a", 0), ("back -0 a", 1), ("back 03 a", 1)):
            self.refuses(BadText, {"line": 0, "word": word}, Tie.read, text)

    def test_no_string(self):
        for value in [*NOT_DAYS, *HOLDERS, 0, Back("a", 1)]:
            if not isinstance(value, str):
                self.refuses(BadText, {"line": 0, "word": 0}, Tie.read, value)


if __name__ == "__main__":
    unittest.main()
