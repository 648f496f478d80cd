"""What hangs on a record, and on what it hangs."""
import random

from remadedays.cycles import Cycle
from remadedays.days import Days
from remadedays.errors import BadDay, NoTable, TooMany, Unsound
from remadedays.hung import hung, roots
from remadedays.records import Records
from remadedays.rings import ring
from remadedays.ties import Ahead, Back, Last, Same, Sofar, Whole
from remadedays.webs import Web
from hungmodel import SLACK, days_told, layered_web, reached, sound_web, users_within
from samples import FAR, LONG, NOT_DAYS, NOT_NAMES, WEEKS, Checked
from webmodel import made_from, some_web

BEHIND = 60


def end_of_first_turn(found):
    """A day behind which all sets of what hangs only repeat, and their period."""
    period, high = 1, None
    for table in found:
        parts = found[table].parts
        high = parts[3] if high is None else max(high, parts[3])
        while period % parts[4][0]:
            period += 1
    return high, period


class BySteps(Checked):

    def test_hung_near_the_record(self):
        rng = random.Random(31)
        kinds = set()
        for _ in range(220):
            web = sound_web(rng)
            kinds |= {tie.__class__.__name__ for table in web for tie in web[table]}
            users = users_within(web, -2 * SLACK, BEHIND + 3 * SLACK)
            for table in web:
                day = rng.randrange(web.cycle.total)
                found = hung(web, table, day)
                self.assertIs(type(found), Records)
                self.assertIn((table, day), found)
                seen = reached(users, (table, day))
                for name in web:
                    self.assertEqual(days_told(found, name, day - SLACK, BEHIND),
                                     {at for other, at in seen if other == name and day - SLACK <= at < BEHIND})
        self.assertEqual(len(kinds), 6)

    def test_roots_near_the_record(self):
        rng = random.Random(32)
        for _ in range(150):
            web = sound_web(rng)
            users = users_within(web, -BEHIND - 2 * SLACK, 3 * SLACK)
            sources = {record: [] for record in users}
            for record, others in users.items():
                for other in others:
                    sources[other].append(record)
            for table in web:
                day = rng.randrange(web.cycle.total)
                found = roots(web, table, day)
                self.assertIs(type(found), Records)
                seen = reached(sources, (table, day))
                for name in web:
                    self.assertEqual(days_told(found, name, -BEHIND, SLACK),
                                     {at for other, at in seen if other == name and -BEHIND <= at < SLACK})

    def test_long_delays(self):
        rng = random.Random(37)
        for _ in range(60):
            web = layered_web(rng)
            users = users_within(web, -320, 320)
            sources = {record: [] for record in users}
            for record, others in users.items():
                for other in others:
                    sources[other].append(record)
            for table in web:
                day = rng.randrange(web.cycle.total)
                for found, steps in ((hung(web, table, day), users), (roots(web, table, day), sources)):
                    seen = reached(steps, (table, day))
                    for name in web:
                        self.assertEqual(days_told(found, name, -70, 70), {at for other, at in seen if other == name and -70 <= at < 70})

    def test_for_all_days_at_once(self):
        rng = random.Random(33)
        periods = set()
        for _ in range(150):
            web = sound_web(rng)
            for table in web:
                first = (table, rng.randrange(-50, 50))
                found = hung(web, *first)
                low = min(found[name].least for name in found)
                high, period = end_of_first_turn(found)
                periods.add(period)
                self.check_closed(web, first, found, range(low - 130, max(high, first[1]) + period + 130))

    def check_closed(self, web, first, found, days):
        """What is told is what is made from it, and each of it is made from it; then that is so for ever."""
        told = {(name, day) for name in found for day in found[name].within(days[0] - 130, days[-1] + 130)}
        for name in web:
            self.assertIs(found[name].greatest is None and bool(found[name]), bool(found[name].parts[4][1]))
            self.assertEqual(found[name].parts[0], (1, ()))
            for day in days:
                hangs = any(source in told for source in made_from(web, (name, day)))
                self.assertEqual((name, day) in told, hangs or (name, day) == first)

    def test_a_record_hangs_on_its_roots(self):
        rng = random.Random(34)
        seen = {True: 0, False: 0}
        for _ in range(100):
            web = sound_web(rng)
            total = web.cycle.total
            for table in web:
                day = rng.randrange(-20, 20)
                found = hung(web, table, day)
                for name in web:
                    near = [day + rng.randint(-15, 40) for _ in range(6)]
                    for at in [*near, day + 10 ** 30 + rng.randrange(total), day + 10 ** 58 * total, day - 10 ** 50]:
                        hangs = (name, at) in found
                        self.assertEqual((table, day) in roots(web, name, at), hangs)
                        seen[hangs] += 1
        self.assertGreater(min(seen.values()), 500)


class Far(Checked):

    def check_moved(self, near, far, by):
        """The sets of one are those of the other, so many days later, also where days have many digits."""
        self.assertEqual(far.tables, near.tables)
        for table in near:
            left, low, middle, high, right = near[table].parts
            moved = [(period, tuple(sorted((rest + by) % period for rest in rests))) for period, rests in (left, right)]
            self.assertEqual(far[table].parts, (moved[0], low + by, tuple(day + by for day in middle), high + by, moved[1]))

    def test_moved_by_whole_cycles(self):
        rng = random.Random(35)
        for _ in range(60):
            web = sound_web(rng)
            total = web.cycle.total
            for table in web:
                day = rng.randrange(total)
                for by in (total, -5 * total, 10 ** 59 // total * total, (FAR - day) // total * total,
                           -((FAR + day) // total) * total):
                    self.check_moved(hung(web, table, day), hung(web, table, day + by), by)
                    self.check_moved(roots(web, table, day), roots(web, table, day + by), by)

    def test_days_of_more_digits(self):
        web = Web(WEEKS, g=[], a=[Back("g", 60)], b=[Ahead("g", 60)])
        found = hung(web, "g", FAR)
        self.assertEqual([found["a"].least, found["b"].least, found["g"].least], [FAR + 60, FAR - 60, FAR])
        self.assertEqual(len(str(found["a"].least)), 61)
        self.assertEqual(hung(web, "g", -FAR)["b"].parts, ((1, ()), -FAR - 60, (-FAR - 60,), -FAR - 59, (1, ())))
        self.assertEqual(roots(web, "a", -FAR)["g"].greatest, -FAR - 60)
        self.assertEqual(roots(web, "b", FAR)["g"].least, FAR + 60)


class Told(Checked):

    def test_two_steps_back_in_one_table(self):
        for one, other in ((2, 3), (4, 6), (5, 7), (12, 18), (30, 49), (59, 60), (1, 60), (60, 60), (35, 55), (57, 60)):
            web = Web(Cycle(1), a=[Back("a", one), Back("a", other)])
            sums = [True]
            for day in range(1, 9000):
                sums.append((day >= one and sums[day - one]) or (day >= other and sums[day - other]))
            found = hung(web, "a", 5)["a"]
            self.assertEqual([day - 5 for day in found.within(5, 9005)], [day for day in range(9000) if sums[day]])
            step = max(p for p in range(1, 61) if one % p == other % p == 0)
            self.assertEqual(found.right_period, step)
            back = roots(web, "a", 5)["a"]
            self.assertEqual([5 - day for day in back.within(-8994, 6)][::-1], [day for day in range(9000) if sums[day]])
            self.assertEqual(back.left_period, step)

    def test_late_multiples(self):
        found = hung(Web(Cycle(1), a=[Back("a", 59), Back("a", 60)]), "a", 0)["a"]
        self.assertEqual([found.parts[3], found.before(3422), 3421 in found, found.count(0, 3422)], [3422, 3420, False, 1711])
        found = hung(Web(WEEKS, a=[Back("a", 44), Back("a", 46)]), "a", 0)["a"]
        self.assertEqual(str(found).split(" right ")[1], f"2 0 from {2 * (22 * 23 - 22 - 23) + 1}")

    def test_tables_in_turn(self):
        turns = Web(WEEKS, a=[Back("b", 7)], b=[Back("a", 7)])
        self.assertEqual(str(hung(turns, "a", 3)), "a right 14 3 from 3\nb right 14 10 from 10")
        self.assertEqual(str(roots(turns, "a", 3)), "a left 14 3 until 16\nb left 14 10 until 9")
        three = Web(LONG, a=[Back("b", 1), Back("g", 0)], b=[Back("c", 2)], c=[Back("a", 5)], g=[])
        self.assertEqual(str(hung(three, "g", -1)), "a right 8 7 from -1\nb right 8 6 from 6\nc right 8 4 from 4\ng days -1")

    def test_blocks(self):
        web = Web(LONG, g=[], s=[Sofar("g")], w=[Whole("g")], e=[Last("g")], m=[Same("g")], t=[Whole("t"), Back("g", 0)])
        self.assertEqual(str(hung(web, "g", 0)), "g days 0\nm days 2\ns days 0 1\nt days 0 right 1 0 from 2\nw days 2 3 4")
        self.assertEqual(str(hung(web, "g", 4)), "e days 5 6\ng days 4\ns days 4\nt right 1 0 from 4\nw days 5 6")
        self.assertEqual(str(hung(web, "g", 3)), "g days 3\nm days 6\ns days 3 4\nt days 3 right 1 0 from 5\nw days 5 6")
        self.assertEqual(str(roots(web, "w", 7)), "g days 5 6\nw days 7")
        self.assertEqual(str(roots(web, "m", 4)), "m days 4")

    def test_ground_alone(self):
        web = Web(WEEKS, a=[], b=[])
        self.assertEqual([str(hung(web, "b", 4)), str(roots(web, "b", -4))], ["b days 4", "b days -4"])

    def test_far_ahead(self):
        web = Web(Cycle(60), a=[Ahead("b", 60)], b=[Ahead("c", 60)], c=[Ahead("d", 59)], d=[Ahead("e", 1)], e=[Ahead("f", 60)],
                  f=[Back("f", 59)])
        found = hung(web, "f", 0)
        self.assertEqual([found[name].least for name in "abcdef"], [-240, -180, -120, -61, -60, 0])
        self.assertEqual(found["a"], Days.from_day(-240) & Days.every(59, -240))
        found = roots(web, "a", 0)
        self.assertEqual([found[name].greatest for name in "abcdef"], [0, 60, 120, 179, 180, 240])
        self.assertEqual(found["f"], Days.until(240) & Days.every(59, 240))

    def test_delays_that_differ_within_a_table(self):
        # What is far ahead of some days of x only makes its rests repeat from unlike days on.
        web = Web(Cycle(1, 3), g=[], y=[Ahead("g", 60)], x=[Same("y"), Back("x", 4), Back("g", 2)])
        found = hung(web, "g", 0)
        self.assertEqual(found["x"].parts, ((1, ()), -59, tuple(range(-59, -1, 4)), -1, (4, (1, 2))))
        found = hung(web, "g", 3)
        self.assertEqual(found["x"].parts, ((1, ()), 5, (), 5, (4, (1,))))
        web = Web(Cycle(1, 3), g=[], y=[Ahead("g", 60)], x=[Same("y"), Back("g", 2)])
        self.assertEqual(str(hung(web, "g", 0)), "g days 0\nx days -59 2\ny days -60")
        self.assertEqual([str(roots(web, "x", 1)), str(roots(web, "x", 2))], ["g days -1 60\nx days 1\ny days 0", "g days 0\nx days 2"])
        short = web.put("x", [Same("y")])
        self.assertEqual([str(hung(short, "x", day)) for day in range(4)], [f"x days {day}" for day in range(4)])
        self.assertEqual([str(roots(short, "x", 1)), str(roots(short, "x", 2))], ["g days 60\nx days 1\ny days 0", "x days 2"])
        web = web.put("z", [Back("x", 40), Back("x", 38)])
        self.assertEqual([str(hung(web, "g", 0)["x"]), str(hung(web, "g", 1)["x"])], ["days -59 2", "days -56 3"])
        self.assertEqual([str(roots(web, "z", 0)["x"]), str(roots(web, "z", 0)["g"])], ["days -40 -38", "days -42 -40 17"])
        web = Web(Cycle(1, 3), g=[], y=[Ahead("g", 60)], x=[Same("y"), Back("x", 4), Back("g", 2)])
        self.assertEqual(str(hung(web, "g", 1)["x"]), "days -56 -52 -48 -44 -40 -36 -32 -28 -24 -20 -16 -12 -8 -4 right 4 0 3 from 0")


class Refused(Checked):

    def setUp(self):
        self.web = Web(LONG, a=[], b=[Back("a", 0)])
        self.ring = Web(LONG, a=[], c=[Back("b", 1)], b=[Ahead("c", 1)])

    def test_tables_and_days(self):
        for work in (hung, roots):
            for web in (self.web, self.ring):
                for value in [*NOT_NAMES, "ab", "days"]:
                    self.refuses(NoTable, {"table": value}, work, web, value, 0)
                    self.refuses(NoTable, {"table": value}, work, web, value, None)
                for value in NOT_DAYS:
                    self.refuses(BadDay, {"value": value}, work, web, "a", value)
                    self.refuses(BadDay, {"value": value}, work, web=web, day=value, table="a")
            self.refuses(Unsound, {"table": "b"}, work, self.ring, "a", 0)
            self.refuses(Unsound, {"table": "b"}, work, day=FAR, web=self.ring, table="b")
            self.assertIn(("a", -FAR), work(day=-FAR, table="a", web=self.web))

    def test_unsound_ahead_of_too_many(self):
        tables = {name: [Back(other, 60)] for name, other in zip("abcde", "bcdea")}
        wide = Web.of(Cycle(59), tables)
        for work in (hung, roots):
            self.refuses(TooMany, {"what": "days", "most": 4000}, work, wide, "a", 0)
            self.refuses(Unsound, {"table": "z"}, work, wide.put("z", [Back("z", 0)]), "a", 0)

    def test_table_of_the_first_record_of_the_ring(self):
        rng = random.Random(36)
        seen = set()
        for _ in range(120):
            web = some_web(rng)
            if ring(web) is not None:
                seen.add(ring(web)[0][0])
                for work in (hung, roots):
                    self.refuses(Unsound, {"table": ring(web)[0][0]}, work, web, web.tables[0], 3)
        self.assertGreater(len(seen), 3)
