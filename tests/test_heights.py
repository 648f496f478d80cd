"""Heights, due nights and the order of records."""
import operator
import random
import unittest

from remadedays.cycles import Cycle
from remadedays.errors import BadDay, BadNumber, NoTable, Unsound
from remadedays.rings import Heights, heights, ring
from remadedays.ties import Ahead, Back, Last, Same, Sofar, Whole
from remadedays.webs import Web
from samples import FAR, LONG, NOT_DAYS, NOT_NAMES, WEEKS, Checked
from webmodel import made_from, numbers, rows_from, some_web


def sound_webs(seed, many):
    """Random small sound webs."""
    rng = random.Random(seed)
    found = []
    while len(found) < many:
        web = some_web(rng, 3, calm=rng.random() < 0.3)
        if ring(web) is None:
            found.append(web)
    return found


class Least(Checked):

    def test_against_all_rows(self):
        seen = set()
        for web in sound_webs(15, 250):
            found = heights(web)
            steps = len(web) * web.cycle.total
            self.assertIs(type(found), Heights)
            self.assertEqual(found.steps, steps)
            for table, rest in numbers(web):
                rows = list(rows_from(web, (table, rest)))
                # The worth of a row is what its last record's height 0 asks of its first one's.
                least = max(steps * (row[-1][1] - rest) + len(row) - 1 for row in rows)
                self.assertEqual(found[table, rest], max(least, 0))
                self.assertEqual(found.due(table, rest), max(row[-1][1] for row in rows))
                seen.add(found[table, rest])
        self.assertGreater(len(seen), 12)

    def test_keys_are_above_those_of_the_sources(self):
        rng = random.Random(16)
        for web in sound_webs(17, 120):
            found = heights(web)
            for table, rest in numbers(web):
                for day in (rest, rest - 7 * web.cycle.total, rng.randint(-FAR // 2, FAR // 2)):
                    key = found.key(table, day)
                    self.assertEqual(key, (found.due(table, day),
                                           found.steps * day + found[table, day % web.cycle.total], table, day))
                    self.assertGreaterEqual(key[0], day)
                    for source in made_from(web, (table, day)):
                        self.assertLess(found.key(*source), key)
                        self.assertLess(found.key(*source)[1], key[1])
                        self.assertLessEqual(found.due(*source), key[0])

    def test_far_days(self):
        for web in sound_webs(18, 40):
            found, total = heights(web), web.cycle.total
            for table in web:
                for day in (FAR, -FAR, 10 ** 59):
                    moved = day - day % total
                    self.assertEqual(found.due(table, day), found.due(table, day % total) + moved)
                    self.assertEqual(found.key(day=day, table=table)[1], found.key(table, day % total)[1] + found.steps * moved)
                    self.assertEqual(found.key(table, day)[2:], (table, day))

    def test_told_webs(self):
        found = heights(web=Web(WEEKS, sales=[], total=[Back("total", 1), Back("sales", 0)]))
        self.assertEqual([found.steps, [found["total", rest] for rest in range(7)], found["sales", 3]], [14, [1] * 7, 0])
        found = heights(Web(LONG, a=[], b=[Sofar("a"), Whole("b")], c=[Ahead("b", 4)]))
        self.assertEqual(found.steps, 15)
        self.assertEqual([found["b", rest] for rest in range(5)], [1] * 5)
        self.assertEqual([found["c", rest] for rest in range(5)], [62] * 5)
        self.assertEqual([found.due("c", -3), found.due("b", -3), found.due(table="a", day=-3)], [1, -3, -3])
        found = heights(Web(Cycle(3), a=[], b=[Back("a", 0)], c=[Back("b", 0), Last("c")], d=[Same("c"), Whole("d")]))
        self.assertEqual([found["a", 0], found["b", 1], found["c", 2], found["d", 0]], [0, 1, 2, 0])

    def test_no_tables(self):
        found = heights(Web(WEEKS))
        self.assertEqual(found.steps, 0)
        self.refuses(NoTable, {"table": "a"}, found.due, "a", 0)

    def test_due_far_ahead(self):
        web = Web(Cycle(60), a=[Ahead("b", 60)], b=[Ahead("c", 60)], c=[Ahead("d", 60)], d=[Ahead("e", 60)], e=[Ahead("f", 60)],
                  f=[Back("a", 60), Back("e", 60)])
        self.assertIsNotNone(ring(web))
        web = web.put("f", [])
        found = heights(web)
        self.assertEqual([found.due(name, 7) for name in "abcdef"], [307, 247, 187, 127, 67, 7])
        self.assertEqual([found[name, 59] for name in "abcdef"], [5 * 21601, 4 * 21601, 3 * 21601, 2 * 21601, 21601, 0])


class Refused(Checked):

    def setUp(self):
        self.found = heights(Web(LONG, a=[], b=[Back("a", 0)]))

    def test_unsound(self):
        rng = random.Random(19)
        seen = set()
        for _ in range(200):
            web = some_web(rng)
            records = ring(web)
            if records is not None:
                seen.add(records[0][0])
                self.refuses(Unsound, {"table": records[0][0]}, heights, web)
        self.assertGreater(len(seen), 3)

    def test_wrong_tables(self):
        for value in [*NOT_NAMES, "c", "ab"]:
            self.refuses(NoTable, {"table": value}, operator.getitem, self.found, (value, 0))
            self.refuses(NoTable, {"table": value}, operator.getitem, self.found, (value, None))
            for ask in (self.found.due, self.found.key):
                self.refuses(NoTable, {"table": value}, ask, value, 0)
                self.refuses(NoTable, {"table": value}, ask, value, None)

    def test_wrong_rests(self):
        for value in [-1, 5, FAR, -FAR, *NOT_DAYS]:
            self.refuses(BadNumber, {"value": value}, operator.getitem, self.found, ("a", value))
            self.refuses(BadNumber, {"value": value}, operator.getitem, self.found, ("b", value))
        self.assertEqual([self.found["b", 0], self.found["b", 4]], [1, 1])

    def test_wrong_days(self):
        for value in NOT_DAYS:
            for ask in (self.found.due, self.found.key):
                self.refuses(BadDay, {"value": value}, ask, "a", value)

    def test_not_iterated(self):
        with self.assertRaises(TypeError):
            iter(self.found)

    def test_steps_is_a_property(self):
        self.assertIsInstance(vars(Heights)["steps"], property)
        self.assertEqual(heights(Web(Cycle(60), a=[Last("b")], b=[])).steps, 120)
        with self.assertRaises(AttributeError):
            self.found.steps = 5


if __name__ == "__main__":
    unittest.main()
