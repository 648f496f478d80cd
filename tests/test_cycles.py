"""Cycles."""
import operator
import random
import unittest

from remadedays.cycles import Cycle
from remadedays.days import Days
from remadedays.errors import BadCycle, BadDay, BadText, TooMany
from samples import FAR, HOLDERS, NOT_DAYS, ODD, TOO_LONG, Checked

ROWS = [(1,), (7,), (60,), (2, 3), (1, 1), (3, 1, 2), (31, 28), (5,) * 12, (1,) * 12, (1, 2, 3, 4, 5, 6, 7, 8, 9, 10, 2, 3),
        (59, 1), (20, 20, 20)]


def blocks(lengths, first, last):
    """For each day from first to last: its block's number, first day, length, told by laying block behind block."""
    found = {}
    for step in (1, -1):
        day, block = 0, 0 if step == 1 else -1
        while (day <= last if step == 1 else day >= first):
            length = lengths[block % len(lengths)]
            begin = day if step == 1 else day - length
            for k in range(begin, begin + length):
                found[k] = (block, begin, length)
            day, block = day + step * length, block + step
    return found


class Made(Checked):

    def test_rows(self):
        for lengths in ROWS:
            for cycle in (Cycle(*lengths), Cycle.of(lengths), Cycle.of(lengths=list(lengths))):
                self.assertEqual(cycle.lengths, lengths)
                self.assertEqual(cycle.total, sum(lengths))
                self.assertEqual(len(cycle), len(lengths))
                self.assertEqual(list(cycle), list(lengths))
                self.assertEqual(tuple(cycle), lengths)
                self.assertEqual(str(cycle), " ".join(map(str, lengths)))
                self.assertEqual(Cycle.read(str(cycle)), cycle)

    def test_properties_are_properties(self):
        for name in ("lengths", "total"):
            self.assertIsInstance(vars(Cycle)[name], property)
            with self.assertRaises(AttributeError):
                setattr(Cycle(7), name, 5)

    def test_later_changes_of_the_list(self):
        lengths = [2, 3]
        cycle = Cycle.of(lengths)
        lengths.append(4)
        lengths[0] = 9
        self.assertEqual([cycle.lengths, cycle.total, str(cycle)], [(2, 3), 5, "2 3"])

    def test_no_list(self):
        for value in [*ODD, *TOO_LONG, 7, {}, {7: 1}, "7"]:
            self.refuses(BadCycle, {"at": None}, Cycle.of, value)

    def test_first_wrong_length(self):
        for value in [0, -1, 61, FAR, *NOT_DAYS]:
            self.refuses(BadCycle, {"at": 0}, Cycle, value)
            self.refuses(BadCycle, {"at": 0}, Cycle.of, [value])
            self.refuses(BadCycle, {"at": 2}, Cycle, 7, 60, value, 3, None)
            self.refuses(BadCycle, {"at": 2}, Cycle.of, (7, 60, value, value))
            self.refuses(BadCycle, {"at": 14}, Cycle, *[9] * 14, value)

    def test_no_length(self):
        self.refuses(BadCycle, {"at": 0}, Cycle)
        self.refuses(BadCycle, {"at": 0}, Cycle.of, [])
        self.refuses(BadCycle, {"at": 0}, Cycle.of, ())

    def test_too_many(self):
        self.refuses(TooMany, {"what": "blocks", "most": 12}, Cycle, *[1] * 13)
        self.refuses(TooMany, {"what": "blocks", "most": 12}, Cycle, *[60] * 13)
        self.refuses(TooMany, {"what": "blocks", "most": 12}, Cycle.of, [1] * 500)
        self.refuses(TooMany, {"what": "days", "most": 60}, Cycle, *[5] * 11, 6)
        self.refuses(TooMany, {"what": "days", "most": 60}, Cycle, 60, 1)
        self.refuses(TooMany, {"what": "days", "most": 60}, Cycle.of, (1, 60))
        self.assertEqual(Cycle(60).total, 60)
        self.assertEqual(Cycle(*[1] * 12).total, 12)

    def test_equal(self):
        self.assertIs(Cycle(2, 3) == Cycle.of([2, 3]), True)
        self.assertIs(Cycle(2, 3) != Cycle.of([2, 3]), False)
        for other in (Cycle(3, 2), Cycle(5), Cycle(2, 3, 2, 3), (2, 3), [2, 3], "2 3", 5, None, Days.none(), *NOT_DAYS[3:9]):
            self.assertIs(Cycle(2, 3) == other, False)
            self.assertIs(other == Cycle(2, 3), False)
            self.assertIs(Cycle(2, 3) != other, True)


class Asked(Checked):

    def check(self, cycle, day, block, first, length):
        self.assertEqual(cycle.block(day), block)
        self.assertEqual(cycle.first(day), first)
        self.assertEqual(cycle.last(day), first + length - 1)
        self.assertEqual(cycle.place(day), day - first)
        self.assertEqual(cycle.length(day), length)
        self.assertEqual(day % cycle, day % sum(cycle.lengths))
        self.assertEqual(day // cycle, day // sum(cycle.lengths))

    def test_near_days(self):
        for lengths in ROWS:
            cycle = Cycle(*lengths)
            for day, (block, first, length) in blocks(lengths, -130, 130).items():
                self.check(cycle, day, block, first, length)

    def test_far_days(self):
        rng = random.Random(8)
        for lengths in ROWS:
            cycle, total = Cycle(*lengths), sum(lengths)
            near = blocks(lengths, 0, total - 1)
            for day in [FAR, -FAR, 10 ** 59] + [rng.randint(-FAR, FAR) for _ in range(20)]:
                turns, rest = divmod(day, total)
                block, first, length = near[rest]
                self.check(cycle, day, block + turns * len(lengths), first + turns * total, length)
        # The ends of a block can be days of more than 60 digits.
        self.assertEqual([Cycle(7).first(-FAR), Cycle(7).last(FAR)], [-FAR - -FAR % 7, FAR + 6 - FAR % 7])
        self.assertGreater(Cycle(60).last(FAR), FAR)

    def test_by_name(self):
        cycle = Cycle(2, 3)
        self.assertEqual([cycle.block(day=9), cycle.first(day=9), cycle.last(day=9), cycle.place(day=9), cycle.length(day=9)],
                         [3, 7, 9, 2, 3])

    def test_wrong_days(self):
        cycle = Cycle(2, 3)
        for value in NOT_DAYS:
            for work in (cycle.block, cycle.first, cycle.last, cycle.place, cycle.length):
                self.refuses(BadDay, {"value": value}, work, value)
            if not isinstance(value, str):
                self.refuses(BadDay, {"value": value}, operator.mod, value, cycle)
                self.refuses(BadDay, {"value": value}, operator.floordiv, value, cycle)

    def test_a_cycle_is_no_day(self):
        for value in (Cycle(7), Cycle(2, 3)):
            self.refuses(BadDay, {"value": value}, operator.mod, value, Cycle(2, 3))
            self.refuses(BadDay, {"value": value}, operator.floordiv, value, Cycle(2, 3))
        for value in (5, None, "a", Days.none()):
            for sign in (operator.mod, operator.floordiv):
                with self.assertRaises(TypeError):
                    sign(Cycle(7), value)


class Read(Checked):

    def test_wrong_words(self):
        for text, word in (("", 0), (" ", 0), ("7 ", 1), (" 7", 0), ("2  3", 1), ("0", 0), ("61", 0), ("7 61", 1), ("-7", 0),
                           ("07", 0), ("+7", 0), ("7.0", 0), ("7\n", 0), ("2\n3", 0), ("x", 0), ("7 x 0", 1), ("2,3", 0),
                           ("9" * 61, 0), ("1" * 1999, 0), ("7 cycle", 1), ("cycle 7", 0), ("2 3 0", 2), ("2 3 4 61 0", 3)):
            self.refuses(BadText, {"line": 0, "word": word}, Cycle.read, text)
            self.refuses(BadText, {"line": 0, "word": word}, Cycle.read, text=text)

    def test_no_string(self):
        for value in [*NOT_DAYS, *HOLDERS, 7, (7,), [2, 3]]:
            if not isinstance(value, str):
                self.refuses(BadText, {"line": 0, "word": 0}, Cycle.read, value)

    def test_what_is_read_is_made(self):
        self.refuses(TooMany, {"what": "blocks", "most": 12}, Cycle.read, " ".join(["1"] * 13))
        self.refuses(TooMany, {"what": "days", "most": 60}, Cycle.read, "30 31")
        self.refuses(BadText, {"line": 0, "word": 2}, Cycle.read, "30 31 61")
        self.refuses(BadText, {"line": 0, "word": 13}, Cycle.read, " ".join(["1"] * 13 + ["x"]))


if __name__ == "__main__":
    unittest.main()
