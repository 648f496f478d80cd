"""What must be made again behind a night."""
import inspect
import random
from itertools import islice

from remadedays.again import again, again_count
from remadedays.cycles import Cycle
from remadedays.days import Days
from remadedays.errors import BadDay, NoTable, NotGround, TooMany, Unsound
from remadedays.hung import hung
from remadedays.rings import heights
from remadedays.ties import Ahead, Back, Sofar
from remadedays.webs import Web
from hungmodel import SLACK, loop_web, reached, sound_web, users_within
from samples import FAR, LONG, NOT_DAYS, NOT_NAMES, WEEKS, Checked


def some_corrections(rng, web, days):
    """One to four drawn records of ground tables, sometimes the same twice."""
    records = [(rng.choice(web.ground), rng.choice(days)) for _ in range(rng.randint(1, 4))]
    return records + records[:rng.randint(0, 1)]


class BySteps(Checked):

    def test_near_nights(self):
        rng = random.Random(71)
        many = 0
        for _ in range(80):
            web = sound_web(rng, ground=True)
            found = heights(web)
            users = users_within(web, -20 - 2 * SLACK, 50 + 2 * SLACK)
            for _ in range(4):
                records = some_corrections(rng, web, range(-10, 25))
                seen = set().union(*[reached(users, record) for record in records])
                for night in (-30, -5, rng.randint(-10, 20), 35):
                    due = [found.key(*record) for record in seen if web[record[0]] and found.due(*record) <= night]
                    wanted = [key[2:] for key in sorted(due)]
                    self.assertEqual(list(again(web, records, night)), wanted)
                    self.assertEqual(list(again(web, tuple(records[::-1]), night)), wanted)
                    self.assertEqual(again_count(web, records, night), len(wanted))
                    many += len(wanted)
        self.assertGreater(many, 5000)

    def test_far_days(self):
        rng = random.Random(72)
        for _ in range(30):
            web = sound_web(rng, ground=True)
            total = web.cycle.total
            records = some_corrections(rng, web, range(-3, 9))
            night = rng.randint(10, 40)
            near = list(again(web, records, night))
            for by in (-total, 10 ** 59 // total * total, -(10 ** 59) * total, (FAR - 50) // total * total):
                moved = [(table, day + by) for table, day in records]
                self.assertEqual(list(again(web, moved, night + by)), [(table, day + by) for table, day in near])
                self.assertEqual(again_count(web, moved, night + by), len(near))

    def test_counts_of_far_nights(self):
        rng = random.Random(73)
        for _ in range(60):
            web = sound_web(rng, ground=True)
            records = some_corrections(rng, web, range(-3, 9))
            try:
                period, high = self.turn_of(web, records)
            except TooMany:
                continue
            night = high + SLACK
            step = again_count(web, records, night + period) - again_count(web, records, night)
            for turns in (2, 10 ** 40 // period, 10 ** 59 // period):
                self.assertEqual(again_count(web, records, night + turns * period),
                                 again_count(web, records, night) + turns * step)

    def turn_of(self, web, records):
        """A period of what hangs, and a day behind which it repeats."""
        period, high = web.cycle.total, 0
        for table, day in records:
            found = hung(web, table, day)
            for name in found:
                right, base = found[name].right_period, period
                while period % right:
                    period += base
                high = max(high, found[name].parts[3])
        return period, high


class Lazy(Checked):

    def setUp(self):
        self.web = Web(WEEKS, sales=(), total=(Back("total", 1), Back("sales", 0)), week=(Sofar("sales"),),
                       lag=[Back("sales", 7)], mix=[Back("total", 0), Back("sales", 0)])

    def test_first_ones_of_many(self):
        made = again(self.web, [("sales", 2), ("sales", 0)], 10 ** 40)
        self.assertTrue(inspect.isgenerator(made))
        self.assertEqual(list(islice(made, 7)), [("total", 0), ("week", 0), ("mix", 0), ("total", 1), ("week", 1), ("mix", 1),
                                                 ("total", 2)])
        self.assertEqual(next(again(self.web, [("sales", -FAR)], FAR)), ("total", -FAR))
        self.assertEqual(again_count(self.web, [("sales", 2)], 10 ** 40), 2 * 10 ** 40 + 4)
        self.assertEqual(again_count(self.web, [("sales", -FAR)], FAR), 2 * (2 * FAR + 1) + 7 - (-FAR) % 7 + 1)

    def test_all_that_hangs_ends(self):
        web = self.web.without("mix").without("total")
        self.assertEqual(list(again(web, [("sales", 5)], FAR)), [("week", 5), ("week", 6), ("lag", 12)])
        self.assertEqual(again_count(web, [("sales", 5)], FAR), 3)

    def test_far_corrections_of_unlike_tables(self):
        # What hangs on one has no table together with what hangs on the other, so the sets need not be joined.
        web = Web(WEEKS, g=[], h=[], a=[Back("g", 3)], b=[Back("h", 1), Back("b", 2)])
        records = [("h", 10 ** 50), ("g", -10 ** 50)]
        self.assertEqual(list(islice(again(web, records, FAR), 3)), [("a", 3 - 10 ** 50), ("b", 10 ** 50 + 1), ("b", 10 ** 50 + 3)])
        self.assertEqual(again_count(web, records, 10 ** 50 + 9), 6)
        self.assertEqual(again_count(web, records, 10 ** 50), 1)

    def test_days_of_more_digits(self):
        web = Web(WEEKS, g=[], a=[Ahead("g", 60)], b=[Back("a", 1)])
        self.assertEqual(list(again(web, [("g", -FAR)], FAR)), [("a", -FAR - 60), ("b", -FAR - 59)])
        self.assertEqual(again_count(web, [("g", -FAR)], -FAR), 2)
        self.assertEqual(list(again(web, [("g", -FAR + 1)], -FAR)), [])
        self.assertEqual(list(again(Web(WEEKS, g=[], a=[Back("g", 60)]), [("g", FAR)], FAR)), [])

    def test_no_corrections(self):
        for records in ((), []):
            self.assertEqual(list(again(self.web, records, 5)), [])
            self.assertEqual(again_count(self.web, records, FAR), 0)

    def test_due_by_the_night(self):
        web = Web(WEEKS, x=[Ahead("y", 1)], y=[Back("x", 2), Back("s", 0)], s=[])
        self.assertEqual(list(again(web, [("s", 5)], 7)), [("y", 5), ("x", 4), ("y", 6), ("x", 5), ("y", 7), ("x", 6)])
        self.assertEqual([again_count(web, [("s", 5)], night) for night in (4, 5, 6, 7)], [0, 2, 4, 6])

    def test_arguments_do_not_change(self):
        records = [("sales", 2), ("sales", 2)]
        made = again(records=records, night=3, web=self.web)
        self.assertEqual(next(made), ("total", 2))
        records.clear()
        self.assertEqual(list(made), [("week", 2), ("mix", 2), ("total", 3), ("week", 3), ("mix", 3)])


class Refused(Checked):

    def setUp(self):
        self.web = Web(LONG, a=[], b=[Back("a", 0)])
        self.ring = Web(LONG, a=[], c=[Back("b", 1)], b=[Ahead("c", 1)])

    def both(self, kind, told, web, records, night):
        """Both functions refuse it; the generator when its first one is asked for."""
        self.refuses(kind, told, again_count, web, records, night)
        self.refuses(kind, told, again_count, night=night, web=web, records=tuple(records))
        for held in (records, tuple(records)):
            made = again(web, held, night)
            self.refuses(kind, told, next, made)

    def test_records(self):
        for web in (self.web, self.ring):
            for value in [*NOT_NAMES, "ab"]:
                self.both(NoTable, {"table": value}, web, [(value, None)], None)
                self.both(NoTable, {"table": value}, web, [("a", 3), (value, 0), ("b", 0)], 3)
            for value in NOT_DAYS:
                self.both(BadDay, {"value": value}, web, [("a", value), ("b", 0)], 3)
                self.both(NotGround, {"table": "b"}, web, [("a", 4), ("b", value)], value)
                self.both(BadDay, {"value": value}, web, [("a", 4)], value)
                self.both(BadDay, {"value": value}, web, [], value)
            self.both(NotGround, {"table": "b"}, web, [("b", 0), ("no", 0), ("a", None)], 3)
            self.both(BadDay, {"value": "x"}, web, [("a", "x"), ("no", 0)], 3)

    def test_unsound(self):
        self.both(Unsound, {"table": "b"}, self.ring, [("a", 0)], 0)
        self.both(Unsound, {"table": "b"}, self.ring, [], -5)
        self.both(Unsound, {"table": "b"}, self.ring, [("a", 0), ("a", 10 ** 30)], -5)

    def test_too_many(self):
        told = {"what": "days", "most": 4000}
        # What hangs on one of the first records goes too far.
        wide = loop_web(59, {"a": [("b", 60), ("g", 0)], "b": [("c", 60)], "c": [("a", 60)], "g": [], "h": []})
        self.assertEqual(again_count(wide, [("h", 0)], 0), 0)
        self.both(TooMany, told, wide, [("h", 0), ("g", 0)], 0)
        # Sets that are refused by the sign that joins them: the days, and the periods.
        self.assertEqual(again_count(self.web, [("a", 0), ("a", 3999)], 3999), 2)
        self.both(TooMany, told, self.web, [("a", 0), ("a", 4000)], 3999)
        self.both(TooMany, told, self.web, [("a", 0), ("a", -10 ** 40)], -10 ** 50)

    def test_periods_that_do_not_join(self):
        web = Web(Cycle(1), p=[Back("s", 60), Back("g", 0)], s=[Back("p", 6)], q=[Back("q", 60), Back("h", 0)],
                  r=[Back("p", 0), Back("q", 0)], g=[], h=[])
        self.assertEqual(again_count(web, [("g", 0)], 659), 30)
        self.assertEqual(again_count(web, [("h", 0)], 600), 22)
        # 66 and 60 days come round in 660, and 71 and 60 in 4,260.
        self.assertEqual(again_count(web, [("g", 0), ("h", 0)], 659), 30 + 22 - 1)
        wide = web.put("s", [Back("p", 11)])
        self.assertEqual(again_count(wide, [("g", 0)], 709), 30)
        self.both(TooMany, {"what": "days", "most": 4000}, wide, [("g", 0), ("h", 0)], 659)

    def test_order_of_two_that_are_joined(self):
        web = Web(Cycle(1), g=[], a=[Back("g", 0)])
        self.assertEqual(hung(web, "g", 0)["a"] | hung(web, "g", 3999)["a"], Days.of([0, 3999]))
        self.both(TooMany, {"what": "days", "most": 4000}, web, [("g", 0), ("g", 3999), ("g", 4000)], 0)
