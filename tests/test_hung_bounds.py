"""The bounds of what hangs: how far it may repeat first, and with which period."""
import random

from remadedays.cycles import Cycle
from remadedays.errors import TooMany
from remadedays.hung import hung, roots
from remadedays.ties import Ahead, Back
from remadedays.webs import Web
from hungmodel import loop_web, turn_by_looking
from samples import Checked

REFUSED = {"what": "days", "most": 4000}


def rows_of(tables, start, many):
    """For each table of a loop web a row of bits: which days hang on day 0 of a table, up to a day."""
    rows = {name: [False] * many for name in tables}
    for day in range(many):
        # No table is tied with 0 to one that comes behind it.
        for name in sorted(tables):
            rows[name][day] = (name, day) == (start, 0) or any(
                day >= number and rows[source][day - number] for source, number in tables[name])
    return rows


class Bounds(Checked):

    def check_end(self, web, table, end):
        """The first turn of what hangs ends so many days from the record: refused exactly beyond 4,000."""
        for day in (0, 17 * web.cycle.total, -10 ** 40 * web.cycle.total):
            if end <= 4000:
                self.assertIn((table, day), hung(web, table, day))
            else:
                self.refuses(TooMany, REFUSED, hung, web, table, day)

    def test_period_of_4000_days(self):
        # The loop of 125 days and the cycle of 32 come round in just 4,000, and all repeats from a day ahead on.
        web = loop_web(32, {"a": [("b", 60)], "b": [("c", 5)], "c": [("a", 60)]})
        found = hung(web, "a", 0)
        self.assertEqual([found[name].parts[4] for name in "abc"], [(125, (0,)), (125, (65,)), (125, (60,))])
        back = roots(web, "a", 0)
        self.assertEqual([back[name].parts[0] for name in "abc"], [(125, (0,)), (125, (65,)), (125, (60,))])
        # A day more in the loop: it comes round in 2,016 days. Of a cycle of 33 days in 4,125.
        self.assertEqual(hung(web.put("b", [Back("c", 6)]), "a", 0)["a"].right_period, 126)
        for total in (33, 34, 37, 59):
            wide = loop_web(total, {"a": [("b", 60)], "b": [("c", 5)], "c": [("a", 60)]})
            self.refuses(TooMany, REFUSED, hung, wide, "a", 0)
            self.refuses(TooMany, REFUSED, roots, wide, "a", 0)
        # What hangs just for a day repeats from the next day on, and so does all: one day too late.
        ground = loop_web(32, {"a": [("b", 60), ("g", 0)], "b": [("c", 5)], "c": [("a", 60)], "g": []})
        self.refuses(TooMany, REFUSED, hung, ground, "g", 0)
        self.assertIn(("c", 60), hung(ground, "a", 0))
        self.refuses(TooMany, REFUSED, roots, loop_web(32, {"a": [("b", 60)], "b": [("c", 5)], "c": [("a", 60)],
                                                            "d": [("a", 3)]}), "d", 0)

    def test_end_of_the_first_turn(self):
        # Loops of 95 days in a cycle of 42 come round in 3,990.
        for more in range(5, 16):
            tables = {"a": [("b", 60), ("g", 60)], "b": [("a", 35)], "e": [("b", more)], "g": []}
            web = loop_web(42, tables)
            # The days of e begin 95 + more days behind the record, and repeat from 94 days ahead of that on.
            self.check_end(web, "g", 95 + more - 94 + 3990)
        self.assertEqual(95 + 9 - 94 + 3990, 4000)

    def test_end_of_the_first_turn_by_a_total(self):
        for more in range(5, 16):
            # All days of t from that number on: ahead of it is none, so all repeats from there on just.
            web = loop_web(42, {"a": [("b", 60), ("g", 0)], "b": [("a", 35)], "t": [("t", 1), ("g", more)], "g": []})
            self.check_end(web, "g", more + 3990)
            web = loop_web(42, {"d": [("a", 0), ("t", more)], "a": [("b", 60)], "b": [("a", 35)], "t": [("t", 1)]})
            if more + 3990 <= 4000:
                self.assertEqual(roots(web, "d", 0)["t"].greatest, -more)
            else:
                self.refuses(TooMany, REFUSED, roots, web, "d", 0)

    def test_end_of_the_first_turn_by_number_of_late_days(self):
        for total in range(20, 34):
            tables = {"a": [("b", 58), ("b", 60)], "b": [("a", 5)]}
            web = loop_web(total, tables)
            # Of all sums of 63 and 65 the last day that is none is 3,967; in b all is 5 days later.
            self.check_end(web, "a", 63 * 65 - 63 - 65 + 1 + 5 + total)
        self.assertEqual(63 * 65 - 63 - 65 + 1 + 5 + 27, 4000)

    def test_by_looking(self):
        rng = random.Random(41)
        seen = {True: 0, False: 0}
        near = 0
        for _ in range(90):
            one, other = rng.sample(range(53, 61), 2)
            more = rng.randint(1, 11)
            tables = {"a": [("b", one), ("b", other)], "b": [("a", more)], "c": [("b", rng.randint(0, 60))], "d": [("c", 60)]}
            total = rng.randint(1, 60)
            web = loop_web(total, tables)
            period, begin = turn_by_looking(list(rows_of(tables, "a", 14000).values()), total, 5000) or (4001, 0)
            told = period <= 4000 and begin + period <= 4000
            near += abs(begin + period - 4000) < 300
            seen[told] += 1
            if told:
                found = hung(web, "a", 0)
                self.assertEqual({name: [day for day in found[name].within(-9, 4900)] for name in web},
                                 {name: [day for day in range(4900) if row[day]]
                                  for name, row in rows_of(tables, "a", 4900).items()})
            else:
                self.refuses(TooMany, REFUSED, hung, web, "a", 0)
        self.assertGreater(min(seen.values()), 12)
        self.assertGreater(near, 4)

    def test_roots_by_turning_about(self):
        rng = random.Random(42)
        seen = {True: 0, False: 0}
        for _ in range(100):
            total = rng.randint(1, 60)
            one, other = rng.sample(range(53, 61), 2)
            more, last = rng.randint(1, 11), rng.randint(0, 60)
            # The roots of a record of the second web lie back as what hangs in the first one lies ahead.
            ahead = loop_web(total, {"a": [("b", one), ("b", other)], "b": [("a", more)], "c": [("b", last)]})
            back = loop_web(total, {"b": [("a", one), ("a", other), ("c", last)], "a": [("b", more)], "c": []})
            day = rng.randint(-500, 500)
            try:
                found = hung(ahead, "a", -day)
            except TooMany:
                self.refuses(TooMany, REFUSED, roots, back, "a", day)
                seen[False] += 1
                continue
            turned = roots(back, "a", day)
            seen[True] += 1
            for name in "abc":
                self.assertEqual([-at for at in found[name].within(-day - 9, 6000)],
                                 list(turned[name].within(-5999, day + 10))[::-1])
        self.assertGreater(min(seen.values()), 12)

    def test_roots_at_the_bound(self):
        for more in range(5, 16):
            # The roots of d in e are those in b, so many days ahead of them.
            web = loop_web(42, {"d": [("a", 60)], "a": [("b", 35)], "b": [("a", 60), ("e", more)], "e": []})
            # B is the greatest day of e, and 94 more.
            if 60 + 35 + more - 94 + 3990 <= 4000:
                self.assertEqual(roots(web, "d", 0)["e"].greatest, -95 - more)
            else:
                self.refuses(TooMany, REFUSED, roots, web, "d", 0)

    def test_late_days_behind_a_chain(self):
        for last in range(2, 60, 3):
            tables = {"a": [("a", 60), ("a", 59), ("b", 60)], "b": [("b", 60), ("b", 59), ("g", last)], "g": []}
            period, begin = turn_by_looking(list(rows_of(tables, "g", 9000).values()), 1, 6000)
            self.check_end(loop_web(1, tables), "g", begin + period)

    def test_middles(self):
        # No middle may go over more than 4,000 days, also where it begins far ahead of the record.
        tables = {"a": [Back("b", 57), Back("b", 60)], "b": [Back("a", 5)], "x": [Ahead("y", 60), Back("b", 0)],
                  "y": [Back("g", 0)], "g": []}
        told = 0
        for number in range(22, 42):
            web = Web.of(Cycle(1), {**tables, "a": [*tables["a"], Back("g", number)]})
            # The days of x go from 60 days ahead of the record to those of b: the sums of 62 and 65.
            begin = number + 5 + 62 * 65 - 62 - 65 + 1
            if begin + 60 <= 4000:
                self.assertEqual(hung(web, "g", 0)["x"].parts[1:4:2], (-60, begin))
                told += 1
            else:
                self.assertLess(begin + 1, 4000)
                self.refuses(TooMany, REFUSED, hung, web, "g", 0)
        self.assertEqual(told, 10)

    def test_middles_of_roots(self):
        tables = {"b": [Back("a", 57), Back("a", 60), Back("x", 0)], "a": [Back("b", 5)], "y": [Ahead("x", 60)], "x": []}
        told = 0
        for number in range(22, 42):
            web = Web.of(Cycle(1), {**tables, "g": [Back("y", 0), Back("a", number)]})
            begin = number + 5 + 62 * 65 - 62 - 65 + 1
            if begin + 60 <= 4000:
                self.assertEqual(roots(web, "g", 0)["x"].parts[1:4:2], (1 - begin, 61))
                told += 1
            else:
                self.refuses(TooMany, REFUSED, roots, web, "g", 0)
        self.assertEqual(told, 10)
