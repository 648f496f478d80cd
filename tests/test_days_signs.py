"""Signs of sets of days, their bounds, and moves."""
import operator
import random
import unittest

from daymodel import some_set, span
from remadedays.cycles import Cycle
from remadedays.days import Days
from remadedays.errors import BadDay, TooMany
from samples import FAR, NOT_DAYS, Checked

BASES = (0, 5, -40, FAR - 60, 60 - FAR)
JOINING = (operator.and_, operator.or_, operator.xor, operator.sub)
COMPARING = (operator.le, operator.lt, operator.ge, operator.gt)
MANY = {"what": "days", "most": 4000}


class Signs(Checked):

    def test_held_against_single_days(self):
        rng = random.Random(2)
        for base in BASES:
            for _ in range(100):
                (one, in_one), (other, in_other) = some_set(rng, base), some_set(rng, base)
                before = (one.parts, other.parts)
                section, union, either, less, rest = one & other, one | other, one ^ other, one - other, ~one
                for day in span(base):
                    self.assertIs(day in one, in_one(day))
                    self.assertIs(day in section, in_one(day) and in_other(day))
                    self.assertIs(day in union, in_one(day) or in_other(day))
                    self.assertIs(day in either, in_one(day) != in_other(day))
                    self.assertIs(day in less, in_one(day) and not in_other(day))
                    self.assertIs(day in rest, not in_one(day))
                self.assertEqual((one.parts, other.parts), before)

    def test_comparing_is_by_the_days(self):
        rng = random.Random(3)
        for base in BASES:
            for _ in range(150):
                (one, in_one), (other, in_other) = some_set(rng, base), some_set(rng, base)
                if rng.random() < 0.4:
                    other, in_other = one & other, lambda day, a=in_one, b=in_other: a(day) and b(day)
                mine = {day for day in span(base) if in_one(day)}
                theirs = {day for day in span(base) if in_other(day)}
                for sign in (*COMPARING, operator.eq, operator.ne):
                    self.assertIs(sign(one, other), sign(mine, theirs))
                    self.assertIs(sign(other, one), sign(theirs, mine))
                    self.assertIs(sign(one, one), sign(mine, mine))

    def test_equal_sets_have_equal_parts_and_texts(self):
        rng = random.Random(4)
        seen = {}
        for base in BASES:
            for _ in range(400):
                days, has = some_set(rng, base)
                key = (base, tuple(day for day in span(base) if has(day)))
                first = seen.setdefault(key, days)
                self.assertEqual(first, days)
                self.assertEqual(first.parts, days.parts)
                self.assertEqual(str(first), str(days))
                self.assertEqual((first.left_period, first.right_period), (days.left_period, days.right_period))
        self.assertLess(len(seen), 1950)

    def test_told_in_unlike_ways(self):
        self.assertEqual(Days.of([0, 1, 2]) | Days.from_day(3), Days.from_day(0))
        self.assertEqual(Days.every(6, 0) | Days.every(6, 2) | Days.every(6, 4), Days.every(2, 0))
        self.assertEqual(Days.every(4, 1) ^ Days.every(4, 3), Days.every(2, 1))
        self.assertEqual((Days.every(3, 0) - Days.of([9])) | Days.of([9]), Days.every(3, 0))
        self.assertEqual(Days.until(8) & Days.from_day(8), Days.of([8]))
        self.assertEqual(Days.until(8) & Days.from_day(9), Days.none())
        self.assertEqual(~~Days.every(7, 1, 2), Days.every(7, 1, 2))
        self.assertEqual(Days.every(5, 0) - Days.every(10, 0), Days.every(10, 5))

    def test_equal_only_to_sets_of_days(self):
        for value in [*NOT_DAYS, 0, 3]:
            for one in (Days.of([0]), Days.always(), Days.every(3, 1)):
                if not isinstance(value, Days):
                    self.assertIs(one == value, False)
                    self.assertIs(value == one, False)
                    self.assertIs(one != value, True)
        self.assertIs(Days.none() == (), False)
        self.assertIs(Days.of([3]) == Days.of([3]).parts, False)

    def test_other_kinds_beside_a_sign(self):
        for value in (None, 5, "a", (), Cycle(7)):
            for sign in (operator.and_, operator.or_, operator.xor, *COMPARING):
                with self.assertRaises(TypeError):
                    sign(Days.of([1]), value)
                with self.assertRaises(TypeError):
                    sign(value, Days.of([1]))

    def test_in_takes_any_value(self):
        for value in NOT_DAYS:
            self.assertIs(value in Days.always(), False)
        self.assertIs(0 in Days.always(), True)
        self.assertIs(1 in Days.of([1]), True)
        self.assertIs(True in Days.of([1]), False)
        self.assertIs(FAR in Days.from_day(0), True)
        self.assertIs(-FAR in Days.from_day(0), False)


def side(period, right):
    """A set that is periodic to one side only."""
    return Days.every(period, 0) & (Days.from_day(0) if right else Days.until(0))


class Bounds(Checked):

    def let(self, one, other):
        for sign in (*JOINING, *COMPARING):
            sign(one, other)
            sign(other, one)
        self.assertIs(one == other, False)

    def refused(self, one, other):
        before = (one.parts, other.parts)
        for sign in (*JOINING, *COMPARING):
            self.refuses(TooMany, MANY, sign, one, other)
            self.refuses(TooMany, MANY, sign, other, one)
        self.refuses(TooMany, MANY, Days.any_of, one, other)
        self.refuses(TooMany, MANY, Days.any_of, Days.none(), other, Days.none(), one)
        self.assertIs(one == other, False)
        self.assertIs(other != one, True)
        self.assertEqual((one.parts, other.parts), before)

    def test_periods_of_both_sides(self):
        self.let(Days.every(125, 0), Days.every(32, 0))
        self.let(Days.every(4000, 0), Days.every(2000, 7))
        self.let(Days.every(4000, 0), Days.every(1, 0))
        self.refused(Days.every(63, 0), Days.every(64, 0))
        self.refused(Days.every(4000, 0), Days.every(3, 0))
        self.refused(Days.every(3999, 0), Days.every(4000, 0))
        self.refused(Days.every(89, 0), Days.every(45, 0))

    def test_periods_of_one_side(self):
        for right in (True, False):
            self.let(side(125, right), side(32, right))
            self.refused(side(63, right), side(64, right))
            self.refused(side(63, right), Days.every(64, 0))
            self.refused(side(3999, right), side(2, right))
            self.let(side(3999, right), side(4000, not right))
            self.let(side(3999, right), Days.of([3]))

    def test_only_least_periods_count(self):
        self.let(Days.every(4000, *range(0, 4000, 8)), Days.every(9, 0))
        self.let(Days.every(3999, *range(0, 3999, 1333)), Days.every(3, 0))

    def test_joint_spans(self):
        for base in (0, -1777, FAR - 4000, 1 - FAR):
            self.let(Days.of([base]), Days.of([base + 3999]))
            self.refused(Days.of([base]), Days.of([base + 4000]))
            self.let(Days.from_day(base), Days.from_day(base + 4000))
            self.let(Days.from_day(base), Days.of([base + 3999]))
            self.refused(Days.from_day(base), Days.of([base + 4000]))
            self.let(Days.until(base), Days.until(base + 4000))
            self.let(Days.until(base - 1), Days.of([base + 3999]))
        self.refused(Days.from_day(0), Days.from_day(4001))
        self.refused(Days.until(0), Days.until(4001))
        self.refused(Days.until(-1), Days.of([4000]))
        self.refused(Days.until(4000), Days.from_day(0))
        self.refused(Days.of([-FAR]), Days.of([FAR]))
        self.refused(Days.of([0, 3999]), Days.of([1, 4000]))
        self.let(Days.of([0, 3999]), Days.of([1, 3998]))

    def test_whole_sets_have_no_beginning(self):
        for whole in (Days.none(), Days.always(), Days.every(7, 3), Days.every(4000, 1)):
            for far in (Days.of([FAR]), Days.of([-FAR, 3999 - FAR]), Days.from_day(FAR), Days.until(-FAR)):
                self.let(whole, far)
        self.refuses(TooMany, MANY, Days.any_of, Days.until(0), Days.of([4001]))

    def test_middles_of_results(self):
        both = Days.of([0]) | Days.of([3999])
        self.assertEqual(both.parts[1:4], (0, (0, 3999), 4000))
        self.assertEqual((Days.of([0]) & Days.of([3999])), Days.none())
        # Behind the greater beginning the left pattern may go on: the middle is empty then.
        late = side(2, False) | (Days.every(4, 0) & Days.from_day(1))
        self.assertEqual(late.parts, ((2, (0,)), 2, (), 2, (4, (0,))))
        late = (Days.every(3999, 0) & Days.until(0)) | (Days.every(4000, 0) & Days.from_day(1))
        self.assertEqual(late.parts, ((3999, (0,)), 3999, (), 3999, (4000, (0,))))

    def test_any_of_joins_from_the_left(self):
        near, far = Days.of([0]), Days.of([4001])
        self.refuses(TooMany, MANY, Days.any_of, near, far)
        self.refuses(TooMany, MANY, Days.any_of, near, Days.from_day(1), far)
        self.refuses(TooMany, MANY, Days.any_of, Days.until(0), far, Days.from_day(1))
        self.assertEqual(Days.any_of(Days.until(0), Days.from_day(1), far), Days.always())
        self.assertEqual(Days.any_of(near, Days.from_day(1), Days.until(-1), far), Days.always())
        self.refuses(TooMany, MANY, Days.any_of, Days.every(64, 0), Days.every(63, 0), Days.always())
        self.assertEqual(Days.any_of(Days.every(64, 0), Days.always(), Days.every(63, 0)), Days.always())

    def test_greatest_periods(self):
        found = Days.every(125, 3, 9) | Days.every(32, 1)
        self.assertEqual(found.left_period, 4000)
        self.assertEqual(found.count(0, 4000), 32 * 2 + 125 - 2)
        for day in range(4000):
            self.assertIs(day in found, day % 125 in (3, 9) or day % 32 == 1)


class Moves(Checked):

    def test_held_against_single_days(self):
        rng = random.Random(5)
        for base in BASES:
            for _ in range(40):
                days, has = some_set(rng, base)
                for by in (0, 1, -1, 7, -5, rng.randint(-30, 30)):
                    for moved in (days + by, by + days, days - (-by)):
                        for day in span(base, -2):
                            if abs(day - by) < 10 ** 60:
                                self.assertIs(day in moved, has(day - by))
                    self.assertEqual((days + by) - by, days)
                    self.assertEqual(by + (days - by), days)
                    self.assertEqual((days + by).parts, Days.from_parts((days + by).parts).parts)

    def test_far_moves(self):
        for by in (FAR, -FAR, 10 ** 59, 5):
            for days in (Days.of([3, 9]), Days.from_day(-4), Days.until(9), Days.every(7, 2), Days.of([FAR]),
                         (Days.every(6, 0, 4) & Days.from_day(8)) | Days.of([2])):
                self.assertEqual(days + by - by, days)
                self.assertEqual(by + (days - by), days)
                self.assertEqual((days + by).is_finite, days.is_finite)
        self.assertEqual((Days.of([FAR, FAR - 4]) + FAR).parts[2], (2 * FAR - 4, 2 * FAR))
        self.assertEqual((Days.of([FAR]) + 1).least, 10 ** 60)
        self.assertEqual((Days.from_day(-FAR) - FAR).least, -2 * FAR)
        self.assertEqual(str(Days.of([FAR]) + FAR), "days " + str(2 * FAR))
        self.assertEqual((Days.every(7, 2) + FAR).parts[0], (7, ((2 + FAR) % 7,)))
        self.assertEqual((Days.of([FAR]) + 9).after(FAR), FAR + 9)
        self.assertEqual(list((Days.of([FAR]) + 9).within(FAR, FAR + 10)), [FAR + 9])

    def test_wrong_values(self):
        for one in (Days.of([1, 2]), Days.always()):
            for value in NOT_DAYS:
                self.refuses(BadDay, {"value": value}, operator.add, one, value)
                if not isinstance(value, Days):
                    self.refuses(BadDay, {"value": value}, operator.add, value, one)
                    self.refuses(BadDay, {"value": value}, operator.sub, one, value)

    def test_days_beside_days(self):
        one, other = Days.of([1, 2]), Days.of([2])
        self.refuses(BadDay, {"value": other}, operator.add, one, other)
        self.assertEqual(one - other, Days.of([1]))
        with self.assertRaises(TypeError):
            5 - one

    def test_nothing_has_changed(self):
        one = Days.of([1, 2])
        same = one
        one += 4
        self.assertEqual([str(same), str(one)], ["days 1 2", "days 5 6"])


if __name__ == "__main__":
    unittest.main()
