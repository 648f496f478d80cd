"""Sets of records."""
import operator
import random
import unittest

from daymodel import some_set, span
from remadedays.cycles import Cycle
from remadedays.days import Days
from remadedays.errors import BadDays, BadName, BadTable, TooMany
from remadedays.records import Records
from samples import FAR, HOLDERS, NAMES, NOT_DAYS, NOT_NAMES, ODD, TOO_LONG, Checked
from test_webs import hashable

MANY = {"what": "days", "most": 4000}
JOINING = (operator.and_, operator.or_, operator.sub)
COMPARING = (operator.le, operator.lt, operator.ge, operator.gt)


def some_records(rng, base):
    """Random records, and the set of those that are near a base."""
    sets, near = {}, set()
    for name in rng.sample("abcd", rng.randint(0, 3)):
        sets[name], has = some_set(rng, base)
        near |= {(name, day) for day in span(base) if has(day)}
    return Records(sets), near


class Made(Checked):

    def test_tables(self):
        sets = {"b": Days.of([3]), "c": Days.none(), "a": Days.every(7, 1), "back": Days.of([]), "self": Days.from_day(4)}
        for told in (sets, dict(sorted(sets.items())), dict(reversed(sets.items()))):
            for found in (Records(told), Records(sets=told)):
                self.assertEqual(found.tables, ("a", "b", "self"))
                self.assertEqual(list(found), ["a", "b", "self"])
                self.assertEqual(len(found), 3)
                self.assertIs(bool(found), True)
                for name in NAMES:
                    self.assertEqual(found[name], sets.get(name, Days.none()))
                self.assertEqual(found.parts, (("a", Days.every(7, 1).parts), ("b", Days.of([3]).parts),
                                               ("self", Days.from_day(4).parts)))
                self.assertEqual(str(found), "a every 7 1\nb days 3\nself right 1 0 from 4")

    def test_empty(self):
        for found in (Records({}), Records({"a": Days.none()}), Records({"b": Days.of([]), "a": Days.every(3)})):
            self.assertEqual([found.tables, list(found), len(found), bool(found), found.parts, str(found)],
                             [(), [], 0, False, (), "none"])
            self.assertEqual(found["a"], Days.none())
            self.assertEqual(found, Records({}))

    def test_later_changes(self):
        sets = {"a": Days.of([1])}
        found = Records(sets)
        sets["b"] = Days.of([1])
        sets["a"] = None
        self.assertEqual(str(found), "a days 1")

    def test_no_dict(self):
        for value in [*ODD, *TOO_LONG, 0, "a", (), [], [("a", Days.none())], ("a",)]:
            self.refuses(BadTable, {"value": value}, Records, value)

    def test_first_wrong_name(self):
        for value in hashable(NOT_NAMES):
            self.refuses(BadName, {"value": value}, Records, {value: Days.none()})
            self.refuses(BadName, {"value": value}, Records, {"b": None, value: None, "A": 5, "a": 5})
            self.refuses(BadName, {"value": "A"}, Records, {"b": Days.of([1]), "A": Days.of([1]), value: 5})

    def test_least_wrong_table(self):
        for value in [None, 5, "none", (), [3], {}, (3, 4), True, Cycle(7), Records({}), Days.of([1]).parts, *HOLDERS]:
            self.refuses(BadDays, {"at": "a"}, Records, {"a": value})
            self.refuses(BadDays, {"at": "b"}, Records, {"d": value, "c": value, "b": value, "a": Days.none()})

    def test_properties_are_properties(self):
        for name in ("tables", "parts"):
            self.assertIsInstance(vars(Records)[name], property)
            with self.assertRaises(AttributeError):
                setattr(Records({}), name, 5)

    def test_asked_for_what_is_no_name(self):
        for value in NOT_NAMES:
            self.refuses(BadName, {"value": value}, operator.getitem, Records({"a": Days.always()}), value)

    def test_in_takes_any_value(self):
        found = Records({"a": Days.always(), "b": Days.of([3])})
        for value in [*NOT_DAYS, *NOT_NAMES, *HOLDERS, "a", 3, ("a",), ("a", 3, 3), ["a", 3], ("a", [3]), (3, "a"), (("a", 3),)]:
            self.assertIs(value in found, False)
        for value in NOT_DAYS:
            self.assertIs(("a", value) in found, False)
        for value in NOT_NAMES:
            self.assertIs((value, 3) in found, False)
        self.assertEqual([("a", FAR) in found, ("b", 3) in found, ("b", 4) in found, ("c", 3) in found],
                         [True, True, False, False])

    def test_equal(self):
        one = Records({"a": Days.of([1]), "b": Days.always()})
        self.assertIs(one == Records({"b": ~Days.none(), "a": Days.of((1,)), "c": Days.none()}), True)
        self.assertIs(one != Records({"b": ~Days.none(), "a": Days.of((1,)), "c": Days.none()}), False)
        for other in [Records({"a": Days.of([1])}), Records({"a": Days.of([2]), "b": Days.always()}), *NOT_DAYS, *NOT_NAMES,
                      {"a": Days.of([1]), "b": Days.always()}, one.parts, str(one), Records({"c": Days.of([1])})]:
            if other is not one:
                self.assertIs(one == other, False)
                self.assertIs(other == one, False)


class Signs(Checked):

    def test_held_against_single_records(self):
        rng = random.Random(20)
        for base in (0, FAR - 60, 60 - FAR):
            for _ in range(150):
                (one, mine), (other, theirs) = some_records(rng, base), some_records(rng, base)
                texts = (str(one), str(other))
                for sign in JOINING:
                    found, near = sign(one, other), sign(mine, theirs)
                    for name in "abcde":
                        for day in span(base):
                            self.assertIs((name, day) in found, (name, day) in near)
                    self.assertEqual(found.tables, tuple(sorted({name for name, _ in near})))
                if rng.random() < 0.5:
                    other, theirs = other & one, theirs & mine
                for sign in (*COMPARING, operator.eq, operator.ne):
                    self.assertIs(sign(one, other), sign(mine, theirs))
                    self.assertIs(sign(other, one), sign(theirs, mine))
                    self.assertIs(sign(one, one), sign(mine, mine))
                self.assertIs(bool(one), bool(mine))
                self.assertEqual(str(one), texts[0])

    def test_table_by_table(self):
        one, other = Records({"a": Days.of([1, 2]), "b": Days.of([3])}), Records({"a": Days.of([2]), "c": Days.of([4])})
        self.assertEqual(str(one & other), "a days 2")
        self.assertEqual(str(one | other), "a days 1 2\nb days 3\nc days 4")
        self.assertEqual(str(one - other), "a days 1\nb days 3")
        self.assertEqual(str(other - one), "c days 4")
        self.assertEqual([one <= one | other, one < one | other, one | other > one, one >= one | other, one < one],
                         [True, True, True, False, False])
        self.assertEqual([one <= other, other <= one, Records({}) < one, Records({}) <= Records({})],
                         [False, False, True, True])

    def test_refused_as_sets_of_days(self):
        far = {"b": Days.of([0])}, {"b": Days.of([4000])}
        long = {"b": Days.every(63, 0)}, {"b": Days.every(64, 0)}
        for one, other in (far, long):
            for sign in (*JOINING, *COMPARING):
                self.refuses(TooMany, MANY, sign, Records(one), Records(other))
                self.refuses(TooMany, MANY, sign, Records(other), Records(one))
                sign(Records(one), Records({"c": other["b"]}))
                mixed = {"a": Days.of([7]), **one, "c": Days.of([7])}
                self.refuses(TooMany, MANY, sign, Records(mixed), Records(other))
                self.refuses(TooMany, MANY, sign, Records(other), Records(mixed))
            self.assertIs(Records(one) == Records(other), False)

    def test_other_kinds_beside_a_sign(self):
        one = Records({"a": Days.of([1])})
        for value in (None, 5, "a", (), {}, {"a": Days.of([1])}, Days.of([1]), Cycle(7)):
            for sign in (*JOINING, *COMPARING):
                with self.assertRaises(TypeError):
                    sign(one, value)


if __name__ == "__main__":
    unittest.main()
