"""What can be asked of a set of days, and its walks."""
import random
import types
import unittest
from itertools import islice

from daymodel import PERIOD, REACH, some_set, span
from remadedays.days import Days
from samples import FAR, Checked

BASES = (0, -33, FAR - 120, 120 - FAR)


class Asked(Checked):

    def test_held_against_single_days(self):
        rng = random.Random(6)
        for base in BASES:
            for _ in range(60):
                days, has = some_set(rng, base)
                near = [day for day in span(base, 60) if has(day)]
                self.check_steps(rng, days, near, base)
                self.check_ends(days, near, base)

    def check_steps(self, rng, days, near, base):
        for day in [base + rng.randint(-30, 30) for _ in range(8)] + [base, base - REACH, base + REACH]:
            later = [other for other in near if other > day]
            sooner = [other for other in near if other < day]
            self.assertEqual(days.after(day), later[0] if later else None)
            self.assertEqual(days.before(day), sooner[-1] if sooner else None)
            end = day + rng.randint(-3, 20)
            inside = [other for other in near if day <= other < end]
            self.assertEqual(days.count(day, end), len(inside))
            self.assertEqual(list(days.within(day, end)), inside)
            self.assertEqual(list(islice(days.forward(day), 4)), [other for other in near if other >= day][:4])
            self.assertEqual(list(islice(days.backward(day), 4)), [other for other in near if other <= day][:-5:-1])

    def check_ends(self, days, near, base):
        left = bool(near) and near[0] < base - REACH
        right = bool(near) and near[-1] > base + REACH + PERIOD
        self.assertIs(bool(days), bool(near))
        self.assertIs(days.is_finite, not left and not right)
        self.assertEqual(days.least, near[0] if near and not left else None)
        self.assertEqual(days.greatest, near[-1] if near and not right else None)
        self.assertEqual(days.left_period, days.parts[0][0])
        self.assertEqual(days.right_period, days.parts[4][0])

    def test_ends(self):
        sets = [Days.none(), Days.always(), Days.of([3, 8]), Days.from_day(3), Days.until(3), Days.every(5, 1),
                Days.of([-FAR]), ~Days.of([4]), Days.every(2, 0) & Days.until(7), Days.every(2, 0) & Days.from_day(7)]
        self.assertEqual([one.least for one in sets], [None, None, 3, 3, None, None, -FAR, None, None, 8])
        self.assertEqual([one.greatest for one in sets], [None, None, 8, None, 3, None, -FAR, None, 6, None])
        self.assertEqual([one.is_finite for one in sets], [True, False, True, False, False, False, True] + [False] * 3)
        self.assertEqual([bool(one) for one in sets], [False] + [True] * 9)
        self.assertEqual([one.left_period for one in sets], [1, 1, 1, 1, 1, 5, 1, 1, 2, 1])
        self.assertEqual([one.right_period for one in sets], [1, 1, 1, 1, 1, 5, 1, 1, 1, 2])

    def test_properties_are_properties(self):
        for name in ("least", "greatest", "left_period", "right_period", "is_finite", "parts"):
            self.assertIsInstance(vars(Days)[name], property)
            with self.assertRaises(AttributeError):
                setattr(Days.of([1]), name, 5)


class Counts(Checked):

    def test_far_spans(self):
        self.assertEqual(Days.every(14, 0).count(0, 10 ** 20), 7142857142857142858)
        self.assertEqual(Days.always().count(-FAR, FAR), 2 * FAR)
        self.assertEqual(Days.from_day(5).count(-FAR, FAR), FAR - 5)
        self.assertEqual(Days.until(5).count(-FAR, FAR), FAR + 6)
        self.assertEqual(Days.of([5, -FAR, 6 - FAR][1:]).count(-FAR, FAR), 2)
        self.assertEqual(Days.every(2, 0).count(-10 ** 50, 10 ** 50), 10 ** 50)
        self.assertEqual(Days.every(3, 1, 2).count(0, 3 * 10 ** 50), 2 * 10 ** 50)
        left = (Days.every(10, 3) & Days.until(0)) | Days.of([5, 6]) | (Days.every(100, 7) & Days.from_day(50))
        self.assertEqual(left.count(-10 ** 40, 10 ** 40), 10 ** 39 + 1 + 10 ** 38)
        self.assertEqual(left.count(a=-10 ** 40, b=6), 10 ** 39 + 1)
        self.assertEqual(left.count(6, 10 ** 40), 10 ** 38)
        self.assertEqual([left.count(5, 7), left.count(5, 6), left.count(6, 7), left.count(7, 107)], [2, 1, 1, 0])
        self.assertEqual([left.count(7, 108), left.count(-7, 5), left.count(-8, 5), left.count(10 ** 30, 10 ** 30 + 8)],
                         [1, 1, 1, 1])

    def test_spans_of_no_day(self):
        for one in (Days.always(), Days.from_day(3), Days.of([3, 4]), Days.every(3, 0)):
            for a, b in ((3, 3), (4, 3), (FAR, -FAR), (FAR, FAR), (0, -1)):
                self.assertEqual(one.count(a, b), 0)
                self.assertEqual(list(one.within(a, b)), [])
        self.assertEqual([Days.of([3]).count(3, 4), list(Days.of([3]).within(a=3, b=4))], [1, [3]])


class Walks(Checked):

    def test_after_and_before(self):
        left = (Days.every(10, 3) & Days.until(0)) | Days.of([5, 6]) | (Days.every(100, 7) & Days.from_day(50))
        self.assertEqual([left.after(day) for day in (-8, -7, 4, 5, 6, 106, 107)], [-7, 5, 5, 6, 107, 107, 207])
        self.assertEqual([left.before(day) for day in (-7, -6, 5, 6, 7, 107, 108)], [-17, -7, -7, 5, 6, 6, 107])
        self.assertEqual(left.after(day=10 ** 50), 10 ** 50 + 7)
        self.assertEqual(left.before(day=-10 ** 50), -10 ** 50 - 7)
        self.assertEqual([left.after(-10 ** 50), left.before(10 ** 50)], [3 - 10 ** 50, 10 ** 50 - 93])
        self.assertEqual([Days.of([4]).after(4), Days.of([4]).before(4), Days.none().after(0)], [None] * 3)
        self.assertEqual([Days.of([4]).after(-FAR), Days.of([4]).before(FAR)], [4, 4])
        self.assertEqual([Days.until(4).after(3), Days.until(4).after(4), Days.from_day(4).before(4)], [4, None, None])
        self.assertEqual([Days.always().after(FAR), Days.always().before(-FAR)], [10 ** 60, -10 ** 60])

    def test_all_bits_of_a_long_pattern(self):
        one = Days.every(4000, 0, 1, 1999, 3999)
        self.assertEqual(list(one.within(-1, 8000)), [-1, 0, 1, 1999, 3999, 4000, 4001, 5999, 7999])
        self.assertEqual(list(islice(one.backward(8000), 6)), [8000, 7999, 5999, 4001, 4000, 3999])

    def test_walks_are_generators(self):
        for walk in (Days.always().within(0, 9), Days.always().forward(0), Days.always().backward(0)):
            self.assertIsInstance(walk, types.GeneratorType)
        self.assertEqual(len(list(Days.of([1, 5]).forward(day=2))), 1)
        self.assertEqual(len(list(Days.of([1, 5]).backward(day=2))), 1)

    def test_endless_walks(self):
        weekly = Days.every(7, 2)
        self.assertEqual(list(islice(weekly.forward(0), 3)), [2, 9, 16])
        self.assertEqual(list(islice(weekly.forward(2), 2)), [2, 9])
        self.assertEqual(list(islice(weekly.backward(0), 3)), [-5, -12, -19])
        self.assertEqual(list(islice(weekly.backward(2), 2)), [2, -5])
        self.assertEqual(next(weekly.within(0, FAR)), 2)
        self.assertEqual(list(islice(Days.until(3).forward(-FAR), 2)), [-FAR, 1 - FAR])
        self.assertEqual(list(Days.until(3).forward(1)), [1, 2, 3])
        self.assertEqual(list(Days.from_day(3).backward(5)), [5, 4, 3])
        self.assertEqual(list(Days.from_day(3).backward(2)), [])
        self.assertEqual(next(Days.every(4000, 0).forward(10 ** 59 + 1)), 10 ** 59 + 4000)
        self.assertEqual(list(Days.none().forward(-FAR)), [])

    def test_several_walks_at_a_time(self):
        one = Days.every(3, 0) | Days.of([4])
        ahead, again, back = one.forward(0), one.forward(0), one.backward(4)
        self.assertEqual([next(ahead), next(ahead), next(back), next(again), next(ahead), next(back), next(again)],
                         [0, 3, 4, 0, 4, 3, 3])

    def test_a_set_is_not_iterated(self):
        with self.assertRaises(TypeError):
            iter(Days.of([1]))


if __name__ == "__main__":
    unittest.main()
