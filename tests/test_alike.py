"""Whether two webs are alike for all corrections."""
import random

from remadedays.alike import parted
from remadedays.cycles import Cycle
from remadedays.errors import TooMany, Unlike, Unsound
from remadedays.hung import hung
from remadedays.ties import Ahead, Back, Last, Same, Sofar, Whole
from remadedays.webs import Web
from hungmodel import SLACK, loop_web, reached, sound_web, users_within
from samples import LONG, WEEKS, Checked
from webmodel import some_tie

TOO_MANY_DAYS = {"what": "days", "most": 4000}


def parted_by_looking(one, other, low, high):
    """What `parted` tells, if the webs differ in what hangs from low to high."""
    users = [users_within(web, low - 2 * SLACK, high + 2 * SLACK) for web in (one, other)]
    for table in one.tables:
        for day in range(one.cycle.total):
            sets = [reached(found, (table, day)) for found in users]
            unlike = [record for record in sets[0] ^ sets[1] if low <= record[1] < high]
            if unlike:
                return ((table, day), min(unlike))
    return None


def changed_web(rng, web):
    """A sound web with a tie more, or one less, or another order of them."""
    table = rng.choice([name for name in web.tables if web[name]] or [web.tables[0]])
    ties = list(web[table])
    kind = rng.randrange(4)
    if kind == 0 and ties:
        ties.pop(rng.randrange(len(ties)))
    elif kind == 1:
        rng.shuffle(ties)
    else:
        ties.insert(0, some_tie(rng, rng.choice(web.tables), web.cycle.total, rng.random() < 0.6))
    return web.put(table, ties[:6])


class Search(Checked):

    def test_against_a_search(self):
        rng = random.Random(111)
        seen = {True: 0, False: 0}
        while min(seen.values()) < 60:
            web = sound_web(rng)
            other = changed_web(rng, web)
            try:
                found = parted(web, other)
            except Unsound:
                continue
            self.assertEqual(found, parted_by_looking(web, other, -SLACK, 120))
            self.assertEqual(parted(other=web, one=other), found)
            seen[found is None] += 1
            if found is not None:
                self.check_first(web, other, found)

    def check_first(self, one, other, found):
        """The hung record hangs in just one of the webs, on this record and on none ahead of it."""
        (table, day), (name, at) = found
        self.assertNotEqual((name, at) in hung(one, table, day), (name, at) in hung(other, table, day))
        for ahead in one.tables:
            for rest in range(one.cycle.total):
                if (ahead, rest) < (table, day):
                    self.assertEqual(hung(one, ahead, rest), hung(other, ahead, rest))

    def test_the_same_web(self):
        rng = random.Random(112)
        for _ in range(25):
            web = sound_web(rng)
            self.assertIsNone(parted(web, web))
            table = rng.choice(web.tables)
            self.assertIsNone(parted(web, web.put(table, [*web[table], *web[table]][:6][::-1])) if len(web[table]) < 4 else None)

    def test_ties_that_add_nothing(self):
        sums = Web(WEEKS, sales=[], total=[Back("total", 1), Back("sales", 0)])
        for number in (1, 3, 60):
            self.assertIsNone(parted(sums, sums.put("total", [*sums["total"], Back("sales", number)])))
            self.assertIsNone(parted(sums, sums.put("total", [*sums["total"], Back("total", number)])))
        for tie in (Sofar("sales"), Whole("sales"), Last("total"), Same("sales"), Whole("total")):
            self.assertIsNone(parted(sums, sums.put("total", [tie, *sums["total"]])))
        found = parted(sums, sums.put("total", [Ahead("sales", 2), *sums["total"]]))
        self.assertEqual(found, (("sales", 0), ("total", -2)))

    def test_difference_far_out(self):
        # A step of 53 days comes to the last day of a block of 60 days only late.
        for step in (43, 47, 49, 53):
            web = Web(Cycle(60), a=[Back("a", step)], b=[])
            day = 0
            while day % 60 != 59:
                day += step
            for one, other in ((web, web.put("b", [Last("a")])), (web.put("b", [Last("a")]), web)):
                self.assertEqual(parted(one, other), (("a", 0), ("b", day + 1)))
            self.assertIsNone(parted(web.put("b", [Last("a"), Last("a")]), web.put("b", [Last("a")])))

    def test_sums_that_come_late(self):
        # In d are all sums of 58 and 59, and those that are some days later.
        tables = {"a": [("a", 58), ("a", 59), ("g", 0)], "b": [("a", 59)], "c": [("b", 60)], "d": [("a", 0)], "g": []}
        one = loop_web(1, tables)
        sums = [True]
        for day in range(1, 5000):
            sums.append((day >= 58 and sums[day - 58]) or (day >= 59 and sums[day - 59]))
        for number in (0, 1, 55, 56, 57, 58, 59, 60):
            later = 119 + number
            late = [day for day in range(later, 4500) if sums[day - later] and not sums[day]]
            # Where all that is later are sums, too, it adds nothing but for a record of b itself.
            wanted = (("a", 0), ("d", late[0])) if late else (("b", 0), ("d", 60 + number))
            other = loop_web(1, {**tables, "d": [("a", 0), ("c", number)]})
            self.assertEqual(parted(one, other), wanted)
            self.assertEqual(parted(other, one), wanted)
            self.assertEqual(not late, number in (55, 56, 57, 58))


class Refused(Checked):

    def test_cycles_and_tables(self):
        rings = [Web(cycle, a=[Sofar("a")]) for cycle in (LONG, WEEKS)]
        for one in (Web(LONG, a=[], b=[]), Web(LONG, a=[Ahead("a", 1)])):
            for other in (Web(WEEKS, a=[], b=[]), Web(Cycle(3, 2), a=[], b=[]), Web(Cycle(5), c=[]), rings[1]):
                self.refuses(Unlike, {"part": "cycle"}, parted, one, other)
                self.refuses(Unlike, {"part": "cycle"}, parted, other=one, one=other)
            for other in (Web(LONG, a=[], c=[]), Web(LONG), Web(LONG, a=[], b=[], c=[])):
                self.refuses(Unlike, {"part": "tables"}, parted, one, other)
                self.refuses(Unlike, {"part": "tables"}, parted, other, one)
        self.assertIsNone(parted(Web(LONG), Web(LONG)))

    def test_records(self):
        told = {"what": "records", "most": 120}
        for total, names in ((60, "ab"), (20, "abcdef"), (24, "abcde"), (40, "abc"), (30, "abcd")):
            web = Web.of(Cycle(total), {name: [] for name in names})
            self.assertIsNone(parted(web, web.put("a", [])))
            self.assertEqual(parted(web, web.put("a", [Back("b", 1)])), (("b", 0), ("a", 1)))
        for total, names in ((60, "abc"), (41, "abc"), (21, "abcdef"), (31, "abcd"), (25, "abcde")):
            web = Web.of(Cycle(total), {name: [] for name in names})
            self.refuses(TooMany, told, parted, web, web)
            self.refuses(TooMany, told, parted, web.put("a", [Sofar("a")]), web)

    def test_unsound(self):
        web = Web(LONG, a=[], b=[Back("a", 0)], c=[])
        for one, other, table in ((web.put("a", [Back("a", 0)]), web, "a"), (web, web.put("b", [Sofar("b")]), "b"),
                                  (web.put("b", [Sofar("b")]), web.put("a", [Back("a", 0)]), "b")):
            self.refuses(Unsound, {"table": table}, parted, one, other)
        wide = loop_web(12, {name: [(before, 60)] for name, before in zip("abcde", "eabcd")})
        self.refuses(Unsound, {"table": "a"}, parted, wide, wide.put("a", [Back("a", 0)]))

    def test_too_many_days(self):
        # A loop of 301 days in a cycle of 14 comes round in 602, and one of 300 with 17 in 5,100.
        wide = loop_web(17, {name: [(before, 60)] for name, before in zip("abcde", "eabcd")})
        self.refuses(TooMany, TOO_MANY_DAYS, parted, wide, wide)
        plain = wide.put("a", [])
        self.refuses(TooMany, TOO_MANY_DAYS, parted, wide, plain)
        self.refuses(TooMany, TOO_MANY_DAYS, parted, plain, wide)
        # What is unlike for a record ahead is told first.
        late = loop_web(29, {"b": [("c", 60)], "c": [("d", 60)], "d": [("b", 60)], "a": []})
        self.refuses(TooMany, TOO_MANY_DAYS, parted, late, late)
        self.refuses(TooMany, TOO_MANY_DAYS, parted, late, late.put("b", [Back("c", 60), Back("a", 0)]))
        other = loop_web(29, {"b": [("a", 0)], "c": [("d", 60)], "d": [], "a": []})
        self.assertEqual(parted(late, other), (("a", 0), ("b", 0)))

    def test_sets_that_cannot_be_compared(self):
        # The sets can be told each, but 60 days and 67 together come round in 4,020.
        one = loop_web(1, {"a": [("a", 60), ("g", 0)], "b": [], "g": []})
        other = loop_web(1, {"a": [("b", 60), ("g", 0)], "b": [("a", 7)], "g": []})
        self.assertEqual([hung(one, "a", 0)["a"].right_period, hung(other, "a", 0)["a"].right_period], [60, 67])
        self.refuses(TooMany, TOO_MANY_DAYS, parted, one, other)
        self.refuses(TooMany, TOO_MANY_DAYS, parted, other, one)
        self.assertEqual(parted(one, other.put("b", [Back("a", 6)])), (("a", 0), ("a", 60)))
