"""Lookers: how much they look at, and what they refuse ahead of it."""
from remadedays.cycles import Cycle
from remadedays.days import Days
from remadedays.errors import BadDay, BadNumber, NotGround, NoTable, TooMany, TooShort, Unsound
from remadedays.hung import hung
from remadedays.looker import shows_hung, shows_settled, shows_sound, shows_way
from remadedays.papers import hung_paper, settled_paper, sound_paper, way_paper
from remadedays.records import Records
from remadedays.rules import Keeping, Rule
from remadedays.settled import settled
from remadedays.ties import Ahead, Back, Last
from remadedays.webs import Web
from hungmodel import loop_web
from papermodel import parts_of_row
from samples import FAR, LONG, NOT_DAYS, NOT_NAMES, WEEKS, Checked
from test_hung_bounds import rows_of
from test_settled import rows_of_states

REFUSED = {"what": "days", "most": 4000}


def paper_of_rows(rows, by, steady):
    """The parts of the records that rows of bits by table tell, all moved by so many days."""
    found = [(name, parts_of_row(rows[name], by, steady)) for name in sorted(rows)]
    return tuple((name, parts) for name, parts in found if parts is not None)


class Items(Checked):

    def test_ways(self):
        web = Web(WEEKS, g=[], t=[Back("t", 1), Back("g", 0)])
        for many, day in ((5000, 0), (5000, -10 ** 50), (4999, 7), (5001, 0), (6000, 3)):
            row = (("g", day), *[("t", day + at) for at in range(many - 1)])
            self.assertIs(shows_way(web, *row[0], *row[-1], ("way", row)), many <= 5000)

    def test_rings(self):
        web = Web(WEEKS, a=[Back("a", 0)])
        for many in (2, 3, 4999, 5000, 5001, 7000):
            self.assertIs(shows_sound(web, ("ring", (("a", 5),) * many)), many <= 5000)

    def test_days(self):
        web = Web(WEEKS, g=[], h=[])
        for many in (3999, 4001, 5000, 5001, 5002):
            days = tuple(range(3, many + 3))
            parts = (("g", ((1, ()), 3, days, many + 3, (1, ()))),)
            self.assertIs(shows_way(web, "g", 3, "h", 3, ("apart", parts)), many <= 5000)
            self.assertIs(shows_hung(web, "g", 3, ("hung", parts)), False)


class Periods(Checked):

    def test_just_4000(self):
        for total in (1, 5, 16, 32, 33, 34, 48, 59):
            # The loop of 125 days and the cycle come round in 4,000 days if it is one of 32.
            web = loop_web(total, {"a": [("b", 60), ("g", 0)], "b": [("c", 5)], "c": [("a", 60)], "g": []})
            for day in (0, 7, -10 ** 40):
                loop = Days.every(125, day) & Days.from_day(day)
                sets = {"g": Days.of([day]), "a": loop, "b": loop + 65, "c": loop + 60}
                paper = ("hung", Records(sets).parts)
                self.assertIs(shows_hung(web, "g", day, paper), total in (1, 5, 16, 32))
                self.assertIs(shows_way(web, "g", day, "g", day + 1, ("apart", paper[1])), total in (1, 5, 16, 32))
                right = (paper[1][:3], (), ())
                self.assertEqual([name for name, _ in right[0]], ["a", "b", "c"])
                told = ("settled", paper[1], (), ())
                self.assertIs(shows_settled(web, Rule(a="all", b="all", c="all"), None, "g", day, 3, told),
                              total in (1, 5, 16, 32))
        # What repeats with 4,000 days begins too late for the function.
        web = loop_web(32, {"a": [("b", 60), ("g", 0)], "b": [("c", 5)], "c": [("a", 60)], "g": []})
        self.refuses(TooMany, REFUSED, hung, web, "g", 0)

    def test_left_and_right_periods(self):
        # All periods of one table count, to the left and to the right, and those of another table.
        for total, periods, told in ((1, (4000, 1, 1), True), (1, (1, 4000, 2000), True), (1, (32, 125, 1), True),
                                     (1, (32, 125, 3), False),
                                     (1, (32, 1, 125), True), (1, (1, 63, 64), False), (1, (63, 64, 1), False),
                                     (7, (4000, 1, 1), False),
                                     (2, (3, 1, 1333), False), (2, (1, 3, 666), True), (60, (1, 1, 66), True),
                                     (60, (66, 1, 61), False)):
            left, right, other = periods
            web = Web(Cycle(total), g=[], h=[])
            sets = Records({"g": (Days.every(left, 1) & Days.until(90)) | (Days.every(right,
                                                                                      2) & Days.from_day(100)) | Days.of([95]),
                            "h": Days.every(other, 3) | Days.of([5])})
            found = [sets["g"].left_period, sets["g"].right_period, sets["h"].left_period]
            self.assertEqual(found, list(periods))
            self.assertEqual(self.least_multiple({total, *periods}) <= 4000, told)
            if 96 not in sets["g"]:
                self.assertIs(shows_way(web, "g", 95, "g", 96, ("apart", sets.parts)), told)
            if 6 not in sets["h"]:
                self.assertIs(shows_way(web, "g", 95, "h", 6, ("apart", sets.parts)), told)

    def least_multiple(self, periods):
        """The least number that is a multiple of each of these."""
        found = 1
        while any(found % period for period in periods):
            found += 1
        return found

    def test_sets_without_a_day_behind(self):
        # The periods of both sides count, also where all of them end on one side.
        web = Web(Cycle(60), g=[], h=[])
        for period in (4000, 3999, 61, 60, 66, 67):
            sets = Records({"g": Days.every(period, 0) & Days.until(100), "h": Days.of([5])})
            wanted = self.least_multiple({60, period}) <= 4000
            self.assertIs(shows_way(web, "g", 0, "h", 6, ("apart", sets.parts)), wanted)


class Spans(Checked):

    def test_two_tables(self):
        web = Web(WEEKS, g=[], h=[])
        for day in (0, 10 ** 50, -FAR):
            for far in (1, 3999, 4000, 4001, 4998, 4999, 5000, 5001, 10 ** 30):
                if day + far <= FAR:
                    sets = Records({"g": Days.of([day]), "h": Days.of([day + far])})
                    # The last day of the set is ahead of the beginning of its right part.
                    self.assertIs(shows_way(web, "g", day, "g", day + 1, ("apart", sets.parts)), far + 1 <= 5000)
                    turned = Records({"h": Days.of([day]), "g": Days.of([day + far])})
                    self.assertIs(shows_way(web, "g", day + far, "h", day + 1, ("apart", turned.parts)), far + 1 <= 5000)

    def test_one_table(self):
        web = Web(WEEKS, g=[])
        for far in (3999, 4000, 4998, 4999, 5000, 5001):
            parts = (("g", ((1, ()), 0, (0, far), far + 1, (1, ()))),)
            self.assertIs(shows_way(web, "g", 0, "g", 1, ("apart", parts)), far + 1 <= 5000)

    def test_sets_that_repeat_as_a_whole(self):
        web = Web(WEEKS, g=[], h=[])
        for at in (0, 10 ** 58, -10 ** 30):
            sets = Records({"g": Days.every(3, 0), "h": Days.of([at])})
            self.assertIs(shows_way(web, "g", 0, "g", 1, ("apart", sets.parts)), True)
            self.assertIs(shows_way(web, "g", 3 * 10 ** 40, "g", 1, ("apart", sets.parts)), True)

    def test_what_hangs_far(self):
        # Of sums of 71 and 72 the last one that is none is 4,969; in b and c all is some days later.
        for more in (0, 17, 18, 19, 30):
            tables = {"a": [("b", 59), ("b", 60)], "b": [("a", 12)], "c": [("b", more)]}
            web = loop_web(7, tables)
            parts = paper_of_rows(rows_of(tables, "a", 11000), 0, 5200)
            self.assertEqual([parts[0][1][3], parts[1][1][3], parts[2][1][3]], [4970, 4982, 4982 + more])
            self.refuses(TooMany, REFUSED, hung, web, "a", 0)
            self.assertIs(shows_hung(web, "a", 0, ("hung", parts)), more <= 18)
            self.assertIs(shows_way(web, "a", 0, "c", 1, ("apart", parts)), more <= 18)
            for far in (7 * 10 ** 57, -7 * 10 ** 30):
                moved = paper_of_rows(rows_of(tables, "a", 11000), far, 5200)
                self.assertIs(shows_hung(web, "a", far, ("hung", moved)), more <= 18)
                self.assertIs(shows_hung(web, "a", far + 7, ("hung", moved)), False)
            # One day less, or one more, far from the record.
            for at in (4800, 4969, 5001):
                rows = rows_of(tables, "a", 11000)
                rows["a"][at] = not rows["a"][at]
                self.assertIs(shows_hung(web, "a", 0, ("hung", paper_of_rows(rows, 0, 5200))), False)

    def test_what_is_settled_far(self):
        tables = {"a": [("b", 59), ("b", 60), ("g", 0)], "b": [("a", 12)], "c": [("b", 2), ("g", 0)], "g": []}
        web = loop_web(7, tables)
        for late, rule in ((0, Rule(a=3, b=2)), (1000, Rule(a=100, b="all", c=800)), (700, Rule(a="all", b=1, c=1))):
            rows = rows_of_states(tables, rule, late, 11000)
            sets = [{name: rows[len(tables) * kind + at] for at, name in enumerate(sorted(tables))} for kind in range(3)]
            for by in (0, 7 * 10 ** 50):
                told = ("settled", *[paper_of_rows(some, by, 5200) for some in sets])
                self.refuses(TooMany, REFUSED, settled, web, rule, None, "g", by, late)
                self.assertIs(shows_settled(web, rule, None, "g", by, late, told), True)
                self.assertIs(shows_settled(web, rule, None, "g", by, late, ("settled", told[1], told[3], told[2])),
                              told[2] == told[3])
                self.assertIs(shows_settled(web, rule, None, "g", by + 7, late, told), False)


class Refused(Checked):

    def setUp(self):
        self.web = Web(LONG, a=[], b=[Back("a", 1)])
        self.ring = Web(LONG, a=[], c=[Last("b")], b=[Ahead("c", 5)])
        self.papers = [None, 5, (), ("hung", ()), hung_paper(self.web, "a", 0), way_paper(self.web, "a", 0, "b", 1),
                       sound_paper(self.ring),
                       settled_paper(self.web, Rule(), None, "a", 0, 0), ("way", (("a", 0),) * 6000)]

    def test_places(self):
        for web in (self.web, self.ring):
            for paper in self.papers:
                for value in [*NOT_NAMES[:12], "ab"]:
                    told = {"table": value}
                    self.refuses(NoTable, told, shows_hung, web, value, None, paper)
                    self.refuses(NoTable, told, shows_way, web, value, None, value, None, paper)
                    self.refuses(NoTable, told, shows_way, web, "a", 0, value, None, paper)
                    self.refuses(NoTable, told, shows_settled, web, Rule(), Keeping(a=0), value, None, None, paper)
                for value in NOT_DAYS[::3]:
                    told = {"value": value}
                    self.refuses(BadDay, told, shows_hung, web, "a", value, paper)
                    self.refuses(BadDay, told, shows_way, web, "a", value, "x", None, paper)
                    self.refuses(BadDay, told, shows_way, web, "a", 3, "b", value, paper)
                    self.refuses(NotGround, {"table": "b"}, shows_settled, web, Rule(), Keeping(a=0), "b", value, value, paper)
                    self.refuses(BadDay, told, shows_settled, web, Rule(), Keeping(a=0), "a", value, -1, paper)
                    self.refuses(BadNumber, told, shows_settled, web, Rule(), Keeping(a=0), "a", 3, value, paper)

    def test_any_values_by_name(self):
        for value in [*NOT_NAMES, "ab"]:
            self.refuses(NoTable, {"table": value}, shows_hung, paper=value, day=value, table=value, web=self.web)
            self.refuses(NoTable, {"table": value}, shows_way, paper=value, other_day=0, other=value, day=3, table="a",
                         web=self.web)
            self.refuses(NoTable, {"table": value}, shows_settled, paper=value, late=value, day=value, table=value,
                         keeping=None,
                         rule=Rule(), web=self.web)
        for value in NOT_DAYS:
            self.refuses(BadDay, {"value": value}, shows_hung, paper=value, day=value, table="b", web=self.ring)
            self.refuses(BadDay, {"value": value}, shows_way, paper=value, other_day=value, other="b", day=3, table="a",
                         web=self.ring)
            self.refuses(BadNumber, {"value": value}, shows_settled, paper=value, late=value, day=3, table="a", keeping=None,
                         rule=Rule(), web=self.ring)
        for value in (-1, 1001, FAR, -FAR):
            self.refuses(BadNumber, {"value": value}, shows_settled, self.ring, Rule(), Keeping(a=0), "a", 3, value, None)
        self.assertIs(shows_settled(self.web, Rule(), Keeping(a=1), "a", 3, 1000, None), False)

    def test_webs(self):
        for paper in self.papers:
            self.refuses(Unsound, {"table": "b"}, shows_hung, self.ring, "a", 0, paper)
            self.refuses(Unsound, {"table": "b"}, shows_way, self.ring, "a", 0, "b", 10 ** 30, paper)
            self.refuses(Unsound, {"table": "b"}, shows_settled, self.ring, Rule(), Keeping(b=0), "a", 0, 0, paper)
            self.refuses(TooShort, {"table": "a"}, shows_settled, self.web, Rule(), Keeping(a=0), "a", 0, 0, paper)
            self.assertIn(shows_sound(self.ring, paper), (True, False))
        self.assertIs(shows_sound(self.ring, sound_paper(self.ring)), True)

    def test_no_looker_raises_too_many(self):
        wide = loop_web(59, {"a": [("b", 60), ("g", 0)], "b": [("c", 60)], "c": [("a", 60)], "g": []})
        self.refuses(TooMany, REFUSED, hung, wide, "g", 0)
        for paper in self.papers:
            self.assertIs(shows_hung(wide, "g", 0, paper), False)
            self.assertIs(shows_way(wide, "g", 0, "c", 10 ** 50, paper), False)
            self.assertIs(shows_settled(wide, Rule(), None, "g", 0, 3, paper), False)
        far = ("way", (("g", 0), ("a", 0), ("c", 60), ("b", 120)))
        self.assertIs(shows_way(wide, "g", 0, "b", 120, far), True)
