"""Lists: how many nights it takes to catch up."""
import random

from remadedays.cycles import Cycle
from remadedays.errors import BadDay, BadNumber, NoTable, NotGround, TooMany, Unsound
from remadedays.lots import listed, lots
from remadedays.rings import heights
from remadedays.ties import Ahead, Back, Last, Same, Sofar, Whole
from remadedays.webs import Web
from hungmodel import SLACK, loop_web, reached, sound_web, users_within
from samples import FAR, LONG, NOT_DAYS, NOT_NAMES, WEEKS, Checked


def lengths_by_playing(dues, night, most, nights):
    """How long the list is behind a night, and behind each of so many nights, from the due nights of what hangs."""
    left = [due for due in dues if due <= night]
    lengths = [len(left)]
    for now in range(night + 1, night + nights + 1):
        left = left[most:]
        if left:
            left = left + [due for due in dues if due == now]
        lengths.append(len(left))
    return lengths


class Played(Checked):

    def check_play(self, web, record, late, most, lengths):
        """What is told is what the play left each night."""
        ended = lengths.index(0) if 0 in lengths else None
        found = lots(web, *record, late, most)
        if ended is None:
            self.assertTrue(found is None or found >= len(lengths))
        else:
            self.assertEqual(found, ended)
        last = len(lengths) - 1
        for nights in {*range(4), 7, 20, last // 2, last, *range(max((ended or 0) - 2, 0), min((ended or 0) + 2, last))}:
            self.assertEqual(listed(web, *record, late, most, nights), lengths[nights])
        return found

    def test_drawn_webs(self):
        rng = random.Random(101)
        seen = {None: 0, 0: 0, 1: 0, "more": 0}
        for _ in range(40):
            web = sound_web(rng, ground=True)
            found = heights(web)
            users = users_within(web, -10 - 2 * SLACK, 120 + 2 * SLACK)
            for _ in range(4):
                record = (rng.choice(web.ground), rng.randrange(web.cycle.total))
                late, most = rng.choice([0, 1, 5, 20, 50]), rng.choice([1, 1, 2, 3, 4, 9])
                dues = sorted(found.due(*other) for other in reached(users, record) if web[other[0]])
                ended = self.check_play(web, record, late, most, lengths_by_playing(dues, record[1] + late, most, 50))
                seen[ended if ended in seen else "more"] += 1
        self.assertGreater(min(seen.values()), 8)

    def test_running_totals(self):
        rng = random.Random(102)
        for totals in (1, 2, 3):
            tables = {name: [Back(name, 1), Back("g", 0)] for name in "abc"[:totals]}
            for more in ({}, {"w": [Sofar("g")]}, {"w": [Sofar("a"), Back("g", 3)], "x": [Whole("g")]}, {"y": [Ahead("a", 2)]}):
                web = Web.of(WEEKS, {"g": [], **tables, **more})
                found = heights(web)
                users = users_within(web, -20, 330)
                dues = sorted(found.due(*other) for other in reached(users, ("g", 3)) if web[other[0]])
                # As many a night as new ones come, one less and one more.
                for most in {totals, max(totals - 1, 1), totals + 1, totals + len(more), totals + len(more) + 1}:
                    for late in (0, 1, 9, rng.randint(20, 60)):
                        self.check_play(web, ("g", 3), late, most, lengths_by_playing(dues, 3 + late, most, 240))

    def test_webs_of_long_periods(self):
        # New records come for a while in one loop of 60 and 59 days, then each day.
        web = loop_web(1, {"a": [("a", 59), ("a", 60), ("g", 0)], "b": [("a", 0)], "g": []})
        users = users_within(web, 0, 5200)
        dues = sorted(day for table, day in reached(users, ("g", 0)) if table != "g")
        for late, most in ((0, 1), (59, 1), (60, 1), (61, 2), (300, 1), (1500, 2), (3500, 3), (0, 2)):
            lengths = lengths_by_playing(dues, late, most, 5000 - late)
            found = lots(web, "g", 0, late, most)
            self.assertEqual(found, lengths.index(0) if 0 in lengths else None if most < 3 else found)
            for nights in (0, 1, 2, 60, 777, 1400):
                self.assertEqual(listed(web, "g", 0, late, most, nights), lengths[nights])
        self.assertEqual(lots(web, "g", 0, 10 ** 40, 2), None)
        self.assertEqual(lots(web, "g", 0, 10 ** 40, 3), 2 * 10 ** 40 - 3422)

    def test_records_that_become_due_long_behind_their_days(self):
        web = Web(WEEKS, g=[], h=[], x=[Back("g", 0), Ahead("h", 60)], y=[Back("x", 0)], z=[Back("x", 1)],
                  t=[Back("t", 1), Back("g", 0)])
        found = heights(web)
        users = users_within(web, -10, 400)
        dues = sorted(found.due(*other) for other in reached(users, ("g", 0)) if web[other[0]])
        for late in (0, 1, 30, 50, 58, 59, 60, 61, 62, 80):
            for most in (1, 2, 3):
                self.check_play(web, ("g", 0), late, most, lengths_by_playing(dues, late, most, 150))
        # Three of them join the list besides: it is empty three nights later.
        self.assertEqual([lots(web, "g", 0, 50, 2), lots(web.put("x", []), "g", 0, 50, 2)], [53, 50])


class Told(Checked):

    def setUp(self):
        self.web = Web(WEEKS, g=[], t=[Back("t", 1), Back("g", 0)], w=[Sofar("g")], l=[Back("g", 7)])

    def test_empty_at_first(self):
        self.assertEqual([lots(Web(WEEKS, g=[]), "g", 5, 9, 1), lots(self.web.without("w"), "g", FAR, 0, 1)], [0, 1])
        web = Web(WEEKS, g=[], l=[Back("g", 7)])
        for late, nights in ((0, 0), (6, 0), (7, 1), (8, 1), (FAR, 1)):
            self.assertEqual([lots(web, "g", -3, late, 1), listed(web, "g", -3, late, 1, 0)], [nights, nights])
        self.assertEqual([listed(web, "g", 0, 0, 1, nights) for nights in (0, 6, 7, 8, FAR)], [0] * 5)
        # What becomes due while the list is empty is made, and never joins it.
        self.assertEqual([listed(self.web, "g", 0, 0, 2, nights) for nights in range(4)], [2, 0, 0, 0])
        # Of two the list holds one each night: a new one joins as long as it is not empty.
        self.assertEqual([listed(self.web, "g", 0, 0, 1, nights) for nights in range(9)], [2, 3, 4, 5, 6, 7, 8, 9, 9])

    def test_never(self):
        sums = Web(WEEKS, g=[], t=[Back("t", 1), Back("g", 0)])
        for late in (1, 2, 100, 10 ** 40, FAR):
            self.assertIsNone(lots(sums, "g", 0, late, 1))
            self.assertEqual(listed(sums, "g", 0, late, 1, FAR), late + 1)
        self.assertEqual(lots(sums, "g", 0, 0, 1), 1)
        # One record a week joins, and seven leave.
        self.assertEqual(lots(Web(WEEKS, g=[], t=[Back("t", 7), Back("g", 0)]), "g", 0, 10 ** 20, 1), 10 ** 20 // 6 + 1)

    def test_far_and_late(self):
        sums = Web(WEEKS, g=[], t=[Back("t", 1), Back("g", 0)], u=[Back("t", 0)])
        for late in (10 ** 39, 10 ** 40 + 7, 10 ** 59, FAR):
            for day in (0, 5, FAR, -FAR, 10 ** 40):
                # Of twice as many records as days three leave each night, and two join.
                first = 2 * (late + 1)
                self.assertEqual(lots(sums, "g", day, late, 3), first - 2)
                self.assertEqual(listed(sums, "g", day, late, 3, 0), first)
                self.assertEqual(listed(sums, "g", day, late, 3, 10 ** 30), first - 10 ** 30)
                self.assertEqual(listed(sums, "g", day, late, 3, FAR), max(first - FAR, 0))
                if first <= FAR:
                    self.assertEqual([listed(sums, "g", day, late, 3, first - 3), listed(sums, "g", day, late, 3, first - 2)],
                                     [3, 0])
                self.assertIsNone(lots(sums, "g", day, late, 2))
                self.assertEqual(lots(sums, "g", day, late, 10 ** 20), -(-(first - 2) // (10 ** 20 - 2)))
                self.assertEqual(lots(sums, "g", day, late, FAR), 1 if first <= FAR else 3)

    def test_rounds_that_differ_in_a_week(self):
        # Two records a week join, always on the same days.
        web = Web(WEEKS, g=[], t=[Same("t"), Back("g", 0)], e=[Back("t", 5)])
        found = heights(web)
        users = users_within(web, -20, 2500)
        dues = sorted(found.due(*other) for other in reached(users, ("g", 6)) if web[other[0]])
        for late in (1, 30, 50, 200, 900):
            for most in (1, 2, 3):
                lengths = lengths_by_playing(dues, 6 + late, most, 2400 - late)
                self.assertEqual(lots(web, "g", 6, late, most), lengths.index(0) if 0 in lengths else None)
                self.assertEqual([listed(web, "g", 6, late, most, nights) for nights in range(0, 300, 7)], lengths[:300:7])


class Refused(Checked):

    def setUp(self):
        self.web = Web(LONG, a=[], b=[Back("a", 1)])
        self.ring = Web(LONG, a=[], c=[Last("b")], b=[Ahead("c", 5)])

    def both(self, kind, told, web, table, day, late, most):
        """Both functions refuse it, `listed` with a wrong number of nights, too."""
        self.refuses(kind, told, lots, web, table, day, late, most)
        self.refuses(kind, told, lots, most=most, late=late, day=day, table=table, web=web)
        for nights in (0, -1, None):
            self.refuses(kind, told, listed, web, table, day, late, most, nights)

    def test_in_order(self):
        for web in (self.web, self.ring):
            for value in [*NOT_NAMES, "ab"]:
                self.both(NoTable, {"table": value}, web, value, None, None, None)
            for value in NOT_DAYS:
                self.both(NotGround, {"table": "b"}, web, "b", value, value, value)
                self.both(BadDay, {"value": value}, web, "a", value, -1, 0)
            for value in [-1, -FAR, *NOT_DAYS]:
                self.both(BadNumber, {"value": value}, web, "a", 3, value, 0)
                self.both(BadNumber, {"value": value}, web, "a", 3, 0, value)
                self.refuses(BadNumber, {"value": value}, listed, web, "a", 3, 0, 1, value)
                self.refuses(BadNumber, {"value": value}, listed, nights=value, most=FAR, late=FAR, day=FAR, table="a", web=web)
            self.both(BadNumber, {"value": 0}, web, "a", 3, 0, 0)
        self.refuses(Unsound, {"table": "b"}, lots, self.ring, "a", 0, 0, 1)
        self.refuses(Unsound, {"table": "b"}, listed, self.ring, "a", 0, 0, 1, 0)
        self.assertEqual([lots(self.web, "a", 3, 1, FAR), listed(self.web, "a", 3, 1, 1, FAR)], [1, 0])

    def test_too_many(self):
        wide = loop_web(59, {"a": [("b", 60), ("g", 0)], "b": [("c", 60)], "c": [("a", 60)], "g": []})
        self.refuses(TooMany, {"what": "days", "most": 4000}, lots, wide, "g", 0, 0, 1)
        self.refuses(TooMany, {"what": "days", "most": 4000}, listed, wide, "g", 0, 0, 1, 0)
        self.refuses(Unsound, {"table": "z"}, lots, wide.put("z", [Back("z", 0)]), "g", 0, 0, 1)
        self.assertEqual(Cycle(59), wide.cycle)
