"""How sets of days are made: of, every, from_day, until, none, always, any_of, from_parts, and their parts."""
import random
import unittest

from daymodel import parts_by_looking, some_set
from remadedays.days import Days
from remadedays.errors import BadDay, BadDays, BadNumber, BadParts, TooMany
from samples import FAR, NOT_DAYS, OBJECTS, ODD, TOO_LONG, Checked

NO_SIDE = (1, ())
ALL_SIDE = (1, (0,))


class Of(Checked):

    def test_lists_and_tuples(self):
        for days in ([5, 3, 9], (9, 5, 3), [3, 3, 9, 5, 9], (3, 5, 9)):
            found = Days.of(days)
            self.assertEqual(found.parts, (NO_SIDE, 3, (3, 5, 9), 10, NO_SIDE))
            self.assertEqual(str(found), "days 3 5 9")
        self.assertEqual(Days.of(days=[-4, 0]).parts, (NO_SIDE, -4, (-4, 0), 1, NO_SIDE))

    def test_empty(self):
        for days in ([], ()):
            self.assertEqual(Days.of(days), Days.none())
            self.assertEqual(Days.of(days).parts, (NO_SIDE, None, (), None, NO_SIDE))

    def test_far_days(self):
        for day in (FAR, -FAR, FAR - 1, 10 ** 59):
            self.assertEqual(Days.of([day]).parts, (NO_SIDE, day, (day,), day + 1, NO_SIDE))
        self.assertEqual(Days.of([FAR, FAR - 3]).parts, (NO_SIDE, FAR - 3, (FAR - 3, FAR), FAR + 1, NO_SIDE))

    def test_no_list(self):
        for value in [*ODD, *TOO_LONG, 0, 5, {}, {1: 2}, "abc"]:
            self.refuses(BadDays, {"at": None}, Days.of, value)

    def test_first_wrong_item(self):
        for value in NOT_DAYS:
            self.refuses(BadDays, {"at": 0}, Days.of, [value])
            self.refuses(BadDays, {"at": 2}, Days.of, [1, 0, value, 3, None])
            self.refuses(BadDays, {"at": 1}, Days.of, (7, value, value))

    def test_wrong_items_ahead_of_too_many(self):
        self.refuses(BadDays, {"at": 2}, Days.of, [0, 9000, None])
        self.refuses(TooMany, {"what": "days", "most": 4000}, Days.of, [0, 9000])

    def test_later_changes_of_the_list(self):
        days = [1, 2]
        found = Days.of(days)
        days.append(8)
        days[0] = None
        self.assertEqual(found.parts[2], (1, 2))

    def test_middle_of_4000_and_4001_days(self):
        for base in (0, -2000, FAR - 4000, -FAR):
            self.assertEqual(Days.of([base + 3999, base]).parts[1:4:2], (base, base + 4000))
            self.refuses(TooMany, {"what": "days", "most": 4000}, Days.of, [base, base + 4000])
        self.refuses(TooMany, {"what": "days", "most": 4000}, Days.of, (FAR, -FAR, 0))
        self.assertEqual(Days.of(list(range(4000))).count(-9, 9999), 4000)


class Every(Checked):

    def test_rests(self):
        self.assertEqual(Days.every(7, 2, 5).parts, ((7, (2, 5)), None, (), None, (7, (2, 5))))
        self.assertEqual(Days.every(7, 5, 2, 9, -2, 2).parts[0], (7, (2, 5)))
        self.assertEqual(Days.every(6, 1, 4, -3), Days.every(6, 1, 3, 4))
        self.assertEqual(Days.every(10, FAR, -FAR).parts[0], (10, (1, 9)))
        self.assertEqual(Days.every(period=3).parts, Days.none().parts)

    def test_no_rests(self):
        for period in (1, 2, 7, 4000):
            self.assertEqual(Days.every(period), Days.none())

    def test_least_periods(self):
        self.assertEqual(Days.every(6, 0, 2, 4).parts[0], (2, (0,)))
        self.assertEqual(Days.every(6, 1, 4).parts[0], (3, (1,)))
        self.assertEqual(Days.every(4, 0, 1, 2, 3), Days.always())
        self.assertEqual(Days.every(4000, *range(3, 4000, 8)).parts[0], (8, (3,)))
        self.assertEqual(Days.every(4000, *range(4000)), Days.always())
        self.assertEqual(Days.every(3999, *range(1, 3999, 1333)).left_period, 1333)
        self.assertEqual(Days.every(12, 0, 3, 6).right_period, 12)
        self.assertEqual(Days.every(1, 17), Days.always())

    def test_period_bounds(self):
        self.assertEqual(Days.every(4000, 3999).parts[0], (4000, (3999,)))
        self.assertEqual(Days.MOST, 4000)
        for period in [0, -1, 4001, FAR, *NOT_DAYS]:
            self.refuses(BadNumber, {"value": period}, Days.every, period, 0)
            self.refuses(BadNumber, {"value": period}, Days.every, period)

    def test_first_wrong_rest(self):
        for rest in NOT_DAYS:
            self.refuses(BadDay, {"value": rest}, Days.every, 7, rest)
            self.refuses(BadDay, {"value": rest}, Days.every, 7, 1, 2, rest, "later")
            self.refuses(BadNumber, {"value": 0}, Days.every, 0, rest)


class Ends(Checked):

    def test_from_day_and_until(self):
        for day in (0, 5, -7, FAR, -FAR):
            self.assertEqual(Days.from_day(day).parts, (NO_SIDE, day, (), day, ALL_SIDE))
            self.assertEqual(Days.until(day).parts, (ALL_SIDE, day + 1, (), day + 1, NO_SIDE))
            self.assertEqual(Days.from_day(day=day), ~Days.until(day=day) | Days.of([day]))
            self.assertEqual([day in Days.from_day(day), day in Days.until(day)], [True, True])

    def test_wrong_days(self):
        for value in NOT_DAYS:
            self.refuses(BadDay, {"value": value}, Days.from_day, value)
            self.refuses(BadDay, {"value": value}, Days.until, value)

    def test_none_and_always(self):
        self.assertEqual(Days.none().parts, (NO_SIDE, None, (), None, NO_SIDE))
        self.assertEqual(Days.always().parts, (ALL_SIDE, None, (), None, ALL_SIDE))

    def test_any_of(self):
        self.assertEqual(Days.any_of(), Days.none())
        self.assertEqual(Days.any_of(Days.of([4])), Days.of([4]))
        self.assertEqual(Days.any_of(Days.of([4]), Days.of([2, 4]), Days.every(5, 0)) & Days.from_day(0) & Days.until(9),
                         Days.of([0, 2, 4, 5]))
        self.assertEqual(Days.any_of(Days.until(0), Days.from_day(1)), Days.always())
        self.assertEqual(Days.any_of(*[Days.of([day]) for day in range(300)]), Days.from_day(0) & Days.until(299))


class Parts(Checked):

    def test_each_set_is_told_by_its_parts(self):
        rng = random.Random(1)
        for base in (0, 3, -50, FAR - 60, 60 - FAR):
            for _ in range(120):
                days, has = some_set(rng, base)
                self.assertEqual(days.parts, parts_by_looking(has, base))
                again = Days.from_parts(days.parts)
                self.assertEqual(again, days)
                self.assertEqual(again.parts, days.parts)
                self.assertEqual(Days.from_parts(parts=days.parts), days)

    def test_days_of_more_than_60_digits(self):
        for far in (Days.of([FAR]) + FAR, Days.until(-FAR) - FAR, (Days.every(3, 1) & Days.from_day(FAR)) + 9):
            self.assertEqual(Days.from_parts(far.parts), far)

    def test_longest(self):
        side = (4000, tuple(range(1, 4000, 3)))
        for parts in (((side, None, (), None, side)), (NO_SIDE, 0, (0, 3999), 4000, NO_SIDE),
                      (NO_SIDE, -5, (-5,), 3995, side)):
            self.assertEqual(Days.from_parts(parts).parts, parts)

    def refused(self, parts):
        self.refuses(BadParts, {"value": parts}, Days.from_parts, parts)

    def test_values_that_are_no_parts(self):
        for value in [*NOT_DAYS, 0, 5, *OBJECTS]:
            self.refused(value)
            self.refused((value, 0, (0,), 1, NO_SIDE))
            self.refused((NO_SIDE, 0, (0,), 1, value))
            if value is not None:
                self.refused((NO_SIDE, value, (), value, NO_SIDE))
                self.refused((NO_SIDE, 0, (0,), "1" if value == 1 else value, NO_SIDE))
                self.refused((NO_SIDE, value, (0,), 9, NO_SIDE))
            if value != ():
                self.refused((NO_SIDE, None, value, None, NO_SIDE))

    def test_wrong_shapes(self):
        right = (NO_SIDE, 3, (3, 4), 5, (2, (1,)))
        self.assertEqual(str(Days.from_parts(right)), "days 3 4 right 2 1 from 5")
        self.refused(list(right))
        for at in range(5):
            self.refused(right[:at] + right[at + 1:])
            self.refused(right[:at] + (None,) + right[at:])
            self.refused(right[:at] + (None,) + right[at + 1:])
        self.refused((NO_SIDE, 3, [3, 4], 5, (2, (1,))))
        self.refused(([1, ()], 3, (3, 4), 5, (2, (1,))))
        self.refused(((1, []), 3, (3, 4), 5, (2, (1,))))
        self.refused((NO_SIDE, 3, (3, 4), 5, (2, [1])))
        self.refused((NO_SIDE, 3, (3, 4), 5, (2, (1,), 0)))
        self.refused((NO_SIDE, 3, (3, 4), 5, (2,)))
        self.refused((NO_SIDE, 3, (3, 4), 5, (0, ())))
        self.refused((NO_SIDE, 3, (3, 4), 5, (-2, (1,))))
        self.refused((NO_SIDE, 3, (3, 4), 5, (4001, (1,))))

    def test_bools(self):
        self.refused((NO_SIDE, 0, (0, True), 2, NO_SIDE))
        self.refused((NO_SIDE, False, (0, 1), 2, NO_SIDE))
        self.refused((NO_SIDE, 0, (0,), True, NO_SIDE))
        self.refused(((True, ()), 0, (0,), 1, NO_SIDE))
        self.refused((NO_SIDE, 0, (), 0, (1, (False,))))
        self.refused((NO_SIDE, 5, (), 5, (True, (0,))))
        self.refused(((2, (True,)), None, (), None, (2, (1,))))
        self.refused(((2, (1,)), None, (), None, (2, (True,))))

    def test_not_ascending_and_out_of_bounds(self):
        self.refused((NO_SIDE, 3, (4, 3), 5, NO_SIDE))
        self.refused((NO_SIDE, 3, (3, 3, 4), 5, NO_SIDE))
        self.refused((NO_SIDE, 3, (2, 4), 5, NO_SIDE))
        self.refused((NO_SIDE, 3, (3, 5), 5, NO_SIDE))
        self.refused((NO_SIDE, 5, (), 3, ALL_SIDE))
        self.refused(((7, (5, 2)), None, (), None, (7, (5, 2))))
        self.refused(((7, (2, 2)), None, (), None, (7, (2, 2))))
        self.refused(((7, (7,)), None, (), None, (7, (7,))))
        self.refused(((7, (-1, 2)), None, (), None, (7, (-1, 2))))
        self.refused(((4001, (0,)), None, (), None, (4001, (0,))))
        self.refused((NO_SIDE, 0, (0, 4000), 4001, NO_SIDE))

    def test_not_the_least_form(self):
        self.refused(((2, (0, 1)), None, (), None, (2, (0, 1))))
        self.refused(((4, (0, 2)), None, (), None, (4, (0, 2))))
        self.refused(((2, ()), None, (), None, (2, ())))
        self.refused(((2, (0,)), None, (), None, (2, (1,))))
        self.refused((ALL_SIDE, None, (), None, NO_SIDE))
        self.refused(((2, (0,)), None, (), 0, (2, (0,))))
        self.refused(((2, (0,)), None, (4,), None, (2, (0,))))
        self.refused(((2, (0,)), 4, (4,), 5, (2, (0,))))
        self.refused((NO_SIDE, 3, (4,), 5, NO_SIDE))
        self.refused((NO_SIDE, 4, (4,), 6, NO_SIDE))
        self.refused((NO_SIDE, 4, (), 4, NO_SIDE))
        self.refused((NO_SIDE, 3, (3, 5), 6, (2, (1,))))
        self.refused((NO_SIDE, 4, (4, 6), 7, (2, (0,))))
        self.refused((NO_SIDE, 1, (), 1, (14, (0,))))
        self.refused((ALL_SIDE, 4, (4, 5), 6, NO_SIDE))
        self.refused((NO_SIDE, 4, (4,), 5, ALL_SIDE))
        self.refused(((2, (0,)), 1, (), 1, NO_SIDE))

    def test_long_values(self):
        self.refused((NO_SIDE, 0, tuple(range(6000)), 6000, NO_SIDE))
        self.refused(tuple(range(6000)))
        self.refused(((4000, tuple(range(5000))), None, (), None, NO_SIDE))


if __name__ == "__main__":
    unittest.main()
