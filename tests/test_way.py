"""The shortest way from a record to one that hangs on it."""
import random

from remadedays.cycles import Cycle
from remadedays.errors import BadDay, NoTable, TooMany, Unsound
from remadedays.hung import hung, way
from remadedays.ties import Ahead, Back, Last, Sofar
from remadedays.webs import Web
from hungmodel import SLACK, sound_web, users_within
from samples import FAR, LONG, NOT_DAYS, NOT_NAMES, WEEKS, Checked
from webmodel import made_from


def least_ways(users, start):
    """For each record that can be reached the least of the shortest rows to it."""
    ways, ends = {start: (start,)}, [start]
    while ends:
        longer = {}
        for end in ends:
            for other in users[end]:
                if other not in ways and (other not in longer or ways[end] + (other,) < longer[other]):
                    longer[other] = ways[end] + (other,)
        ways.update(longer)
        ends = list(longer)
    return ways


class Ways(Checked):

    def check_way(self, web, record, other, found):
        """A row of records, each of which is made from the one ahead."""
        self.assertIs(type(found), tuple)
        self.assertEqual([found[0], found[-1]], [record, other])
        for source, user in zip(found, found[1:]):
            self.assertIn(source, made_from(web, user))

    def test_against_a_search(self):
        rng = random.Random(51)
        lengths = {}
        for _ in range(60):
            web = sound_web(rng)
            users = users_within(web, -SLACK - 20, 45 + 2 * SLACK)
            for table in web:
                record = (table, rng.randrange(web.cycle.total))
                ways = least_ways(users, record)
                for name in web:
                    for day in range(-12, 40):
                        found = way(web, *record, name, day)
                        self.assertEqual(found, ways.get((name, day)))
                        if found is not None:
                            self.check_way(web, record, (name, day), found)
                        lengths[found and len(found)] = lengths.get(found and len(found), 0) + 1
        self.assertGreater(min(lengths[None], lengths[1], lengths[2], lengths[3], lengths[6]), 40)

    def test_far_days(self):
        rng = random.Random(52)
        for _ in range(40):
            web = sound_web(rng)
            total = web.cycle.total
            for table in web:
                for name in web:
                    day, other = rng.randrange(total), rng.randint(-5, 30)
                    near = way(web, table, day, name, other)
                    for by in (-total, 10 ** 58 * total, -(10 ** 58) * total, (FAR - 40) // total * total):
                        moved = near and tuple((at, when + by) for at, when in near)
                        self.assertEqual(way(web, table, day + by, name, other + by), moved)

    def test_none_exactly_if_it_does_not_hang(self):
        rng = random.Random(53)
        seen = {True: 0, False: 0}
        for _ in range(50):
            web = sound_web(rng)
            for table in web:
                day = rng.randint(-9, 9)
                found = hung(web, table, day)
                for name in web:
                    for far in (day + rng.randint(-60, 500), day + rng.randint(0, 30), day + 1500):
                        hangs = (name, far) in found
                        row = way(web, table, day, name, far)
                        self.assertEqual(row is not None, hangs)
                        if hangs:
                            self.check_way(web, (table, day), (name, far), row)
                        seen[hangs] += 1
        self.assertGreater(min(seen.values()), 60)

    def test_the_same_record(self):
        web = Web(WEEKS, a=[Back("a", 1)], g=[])
        for day in (0, 5, -FAR, FAR):
            self.assertEqual(way(web, "a", day, "a", day), (("a", day),))
            self.assertEqual(way(web, "g", day, "g", day), (("g", day),))
        self.assertIsNone(way(web, "g", 0, "a", 0))

    def test_least_of_the_shortest(self):
        web = Web(WEEKS, g=[], a=[Back("g", 1), Back("c", 1)], b=[Back("g", 0)], c=[Back("g", 0), Back("c", 3)],
                  z=[Back("c", 2), Back("b", 2), Back("a", 1), Sofar("c")])
        self.assertEqual(way(web, "g", 2, "z", 4), (("g", 2), ("a", 3), ("z", 4)))
        self.assertEqual(way(web.put("a", []), "g", 2, "z", 4), (("g", 2), ("b", 2), ("z", 4)))
        self.assertEqual(way(web, "g", 0, "z", 6), (("g", 0), ("c", 0), ("z", 6)))
        self.assertEqual(way(web, "g", 0, "z", 8), (("g", 0), ("c", 0), ("c", 3), ("c", 6), ("z", 8)))
        # Days are compared as numbers: the ones ahead of 0 come first.
        both = Web(WEEKS, g=[], a=[Back("g", 0), Ahead("g", 3)], b=[Back("a", 3), Back("a", 0)])
        self.assertEqual(way(both, "g", 1, "b", 1), (("g", 1), ("a", -2), ("b", 1)))

    def test_ahead(self):
        web = Web(WEEKS, x=[Ahead("y", 1)], y=[Back("x", 2), Back("s", 0)], s=[])
        self.assertEqual(way(web, "s", 5, "x", 4), (("s", 5), ("y", 5), ("x", 4)))
        self.assertEqual(way(web, "s", 5, "y", 6), (("s", 5), ("y", 5), ("x", 4), ("y", 6)))
        self.assertIsNone(way(web, "x", 4, "s", 5))
        far = Web(Cycle(60), a=[Ahead("b", 60)], b=[Ahead("c", 60)], c=[Ahead("d", 60)], d=[])
        self.assertEqual(way(far, "d", 0, "a", -180), (("d", 0), ("c", -60), ("b", -120), ("a", -180)))

    def test_4000_days_apart(self):
        web = Web(WEEKS, a=[Back("a", 50), Back("a", 30), Back("g", 0)], g=[])
        self.assertEqual(way(web, "a", 5, "a", 4005), tuple(("a", day) for day in range(5, 4006, 50)))
        self.assertEqual(len(way(web, "g", 0, "a", 4000)), 82)
        for day in (0, -13, 10 ** 59):
            self.assertEqual(len(way(web, "a", day, "a", day + 3990)), 82)
            self.assertIsNone(way(web, "a", day, "a", day - 4000))
            self.assertIsNone(way(web, "a", day, "g", day + 4000))
            for far in (day + 4001, day - 4001, day + 10 ** 30, -day - 10 ** 40):
                self.refuses(TooMany, {"what": "days", "most": 4000}, way, web, "a", day, "a", far)
                self.refuses(TooMany, {"what": "days", "most": 4000}, way, web, "a", day, "g", far)
        row = way(Web(WEEKS, a=[Back("a", 1)]), "a", -4000, "a", 0)
        self.assertEqual(row, tuple(("a", day) for day in range(-4000, 1)))


class Refused(Checked):

    def setUp(self):
        self.web = Web(LONG, a=[], b=[Back("a", 0)])
        self.ring = Web(LONG, a=[], c=[Last("b")], b=[Ahead("c", 5)])

    def test_the_first_record_ahead_of_the_second(self):
        for web in (self.web, self.ring):
            for value in [*NOT_NAMES, "ab"]:
                self.refuses(NoTable, {"table": value}, way, web, value, None, None, None)
                self.refuses(NoTable, {"table": value}, way, web, "a", 0, value, None)
                self.refuses(BadDay, {"value": "x"}, way, web, "a", "x", value, None)
            for value in NOT_DAYS:
                self.refuses(BadDay, {"value": value}, way, web, "a", value, "no", None)
                self.refuses(BadDay, {"value": value}, way, web, "b", 3, "a", value)
                self.refuses(NoTable, {"table": "no"}, way, web, "no", value, "a", value)
                self.refuses(BadDay, {"value": value}, way, other_day=value, web=web, table="a", day=9, other="b")

    def test_unsound_ahead_of_too_many(self):
        self.refuses(Unsound, {"table": "b"}, way, self.ring, "a", 0, "a", 9000)
        self.refuses(Unsound, {"table": "b"}, way, self.ring, "a", 0, "a", 0)
        self.refuses(TooMany, {"what": "days", "most": 4000}, way, self.web, "a", 0, "a", 9000)
        self.assertEqual(way(day=0, other="b", web=self.web, other_day=0, table="a"), (("a", 0), ("b", 0)))

    def test_webs_that_come_round_too_late(self):
        # The bounds of the sets do not hold for ways.
        tables = {name: [Back(other, 60)] for name, other in zip("abcde", "bcdea")}
        wide = Web.of(Cycle(59), tables)
        self.refuses(TooMany, {"what": "days", "most": 4000}, hung, wide, "a", 0)
        self.assertEqual(way(wide, "a", 0, "d", 120), (("a", 0), ("e", 60), ("d", 120)))
        self.assertEqual(len(way(wide, "a", 0, "a", 3900)), 66)
