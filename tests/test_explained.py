"""Which single corrections explain what was seen."""
import random

from remadedays.cycles import Cycle
from remadedays.days import Days
from remadedays.errors import BadDay, NoTable, TooMany, Unsound
from remadedays.explained import explained
from remadedays.hung import roots
from remadedays.records import Records
from remadedays.ties import Ahead, Back, Last, Same, Sofar
from remadedays.webs import Web
from hungmodel import SLACK, loop_web, reached, sound_web, users_within
from samples import FAR, LONG, NOT_DAYS, NOT_NAMES, WEEKS, Checked
from webmodel import made_from

REFUSED = {"what": "days", "most": 4000}


def some_records(rng, web, most):
    """Some drawn records of a web."""
    return [(rng.choice(web.tables), rng.randint(-6, 14)) for _ in range(rng.randint(0, most))]


class BySteps(Checked):

    def test_near_days(self):
        rng = random.Random(121)
        kinds, found_some, found_none = set(), 0, 0
        for _ in range(130):
            web = sound_web(rng, ground=True)
            kinds |= {tie.__class__.__name__ for table in web for tie in web[table]}
            users = users_within(web, -60 - 2 * SLACK, 40 + 2 * SLACK)
            sources = {record: [] for record in users}
            for record, others in users.items():
                for other in others:
                    sources[other].append(record)
            for _ in range(4):
                changed, unchanged = some_records(rng, web, 3), some_records(rng, web, 2)
                found = explained(web, changed, unchanged)
                self.assertIs(type(found), Records)
                self.assertLessEqual(set(found.tables), set(web.ground))
                wanted = {record for record in users if record[0] in web.ground}
                for record in changed:
                    wanted &= reached(sources, record)
                for record in unchanged:
                    wanted -= reached(sources, record)
                near = {(name, day) for name, day in wanted if -30 <= day < 30}
                self.assertEqual({(name, day) for name in found for day in found[name].within(-30, 30)}, near)
                found_some += bool(near) and bool(changed)
                found_none += not found
        self.assertEqual(len(kinds), 6)
        self.assertGreater(min(found_some, found_none), 60)

    def test_each_one_alone_explains(self):
        rng = random.Random(122)
        for _ in range(40):
            web = sound_web(rng, ground=True)
            changed, unchanged = some_records(rng, web, 2), some_records(rng, web, 2)
            found = explained(web, changed, unchanged)
            for name in web.ground:
                for day in range(-20, 20):
                    hangs = [(name, day) in roots(web, *record) for record in changed]
                    hangs += [(name, day) not in roots(web, *record) for record in unchanged]
                    self.assertEqual((name, day) in found, all(hangs))

    def test_far_days(self):
        rng = random.Random(123)
        for _ in range(60):
            web = sound_web(rng, ground=True)
            total = web.cycle.total
            changed, unchanged = some_records(rng, web, 2), some_records(rng, web, 2)
            near = explained(web, changed, unchanged)
            for by in (-total, 10 ** 58 * total, -(10 ** 50) * total, (FAR - 20) // total * total):
                far = explained(web, [(name, day + by) for name, day in changed], [(name, day + by) for name, day in unchanged])
                self.assertEqual(far, Records({name: near[name] + by for name in near}))

    def test_lists_tuples_and_names(self):
        rng = random.Random(124)
        for _ in range(25):
            web = sound_web(rng, ground=True)
            changed, unchanged = some_records(rng, web, 3), some_records(rng, web, 2)
            found = explained(web, changed, unchanged)
            self.assertEqual(explained(web, tuple(changed), tuple(unchanged)), found)
            self.assertEqual(explained(unchanged=unchanged, web=web, changed=tuple(changed)), found)
            self.assertEqual(explained(web, changed, ()), explained(web, changed))
            self.assertEqual(explained(web, changed * 2, [*unchanged, *unchanged[::-1]]), found)
            kept = ([*changed], [*unchanged])
            explained(web, changed, unchanged)
            self.assertEqual((changed, unchanged), kept)


class Cases(Checked):

    def setUp(self):
        self.web = Web(WEEKS, sales=(), total=(Back("total", 1), Back("sales", 0)), week=(Sofar("sales"),), rate=[],
                       mix=[Back("total", 0), Back("rate", 2)])

    def test_without_changed_ones(self):
        whole = Records({"sales": Days.always(), "rate": Days.always()})
        self.assertEqual(explained(self.web, []), whole)
        self.assertEqual(explained(self.web, (), ()), whole)
        self.assertEqual(str(explained(self.web, [], [("week", 9), ("mix", 3)])),
                         "rate left 1 0 until 0 right 1 0 from 2\nsales days 4 5 6 right 1 0 from 10")
        self.assertEqual(explained(Web(LONG), [], []), Records({}))

    def test_records_of_ground_tables(self):
        self.assertEqual(str(explained(self.web, [("sales", 5)])), "sales days 5")
        self.assertEqual(str(explained(self.web, [("sales", 5), ("total", 7)])), "sales days 5")
        self.assertFalse(explained(self.web, [("sales", 5), ("sales", 6)]))
        self.assertFalse(explained(self.web, [("sales", 5)], [("total", 7)]))
        self.assertEqual(str(explained(self.web, [("mix", 5)], [("total", 5)])), "rate days 3")

    def test_without_ground_tables(self):
        web = Web(WEEKS, a=[Back("a", 1)], b=[Same("a")])
        self.assertEqual(explained(web, [("a", 1)]), Records({}))
        self.assertEqual(explained(web, [], [("b", 1)]), Records({}))


class Refused(Checked):

    def setUp(self):
        self.web = Web(LONG, a=[], b=[Back("a", 0)])
        self.ring = Web(LONG, a=[], c=[Last("b")], b=[Ahead("c", 5)])

    def test_places(self):
        for web in (self.web, self.ring):
            for value in [*NOT_NAMES, "ab"]:
                for changed, unchanged in (([(value, None)], [("no", None)]), ([("a", 1), (value, 0), ("b", None)], []),
                                           ([], [("b", 1), (value, 0)]), ([("a", 3)], [(value, None)])):
                    self.refuses(NoTable, {"table": value}, explained, web, changed, unchanged)
                    self.refuses(NoTable, {"table": value}, explained, unchanged=tuple(unchanged), web=web,
                                 changed=tuple(changed))
            for value in NOT_DAYS:
                for changed, unchanged in (([("b", value)], [("no", 0)]), ([("a", 1), ("a", value), ("no", 0)], []),
                                           ([], [("b", 1), ("a", value), ("no", 0)]),
                                           ([("a", 3)], [("b", value), ("b", None)])):
                    self.refuses(BadDay, {"value": value}, explained, web, changed, unchanged)
        self.refuses(NoTable, {"table": "no"}, explained, self.web, [("no", 0)])

    def test_unsound(self):
        for changed, unchanged in (([("a", 0)], []), ([], []), ([], [("a", 10 ** 30)]), ([("a", 0), ("a", 10 ** 30)], [])):
            self.refuses(Unsound, {"table": "b"}, explained, self.ring, changed, unchanged)

    def test_too_many_as_roots(self):
        wide = loop_web(59, {"a": [("b", 60), ("g", 0)], "b": [("c", 60)], "c": [("a", 60)], "g": [], "h": [("g", 1)]})
        self.refuses(TooMany, REFUSED, roots, wide, "a", 0)
        self.assertEqual(str(explained(wide, [("h", 0)])), "g days -1")
        # Also if nothing was left that could be less.
        self.refuses(TooMany, REFUSED, explained, wide, [("h", 0), ("h", 3), ("a", 0)])
        self.refuses(TooMany, REFUSED, explained, wide, [("h", 0), ("h", 3)], [("h", 1), ("c", 5)])
        self.refuses(TooMany, REFUSED, explained, wide, [], [("a", 0)])

    def test_too_many_days_of_signs(self):
        web = Web(LONG, a=[], t=[Back("t", 1), Back("a", 0)], h=[])
        self.assertEqual(str(explained(web, [("t", 0), ("t", 4000)])), "a left 1 0 until 0")
        self.refuses(TooMany, REFUSED, explained, web, [("t", 0), ("t", 4001)])
        # One after another, from the left: what is left behind some of them counts.
        self.assertEqual(str(explained(web, [("t", 4000), ("t", 0), ("t", -4000)])), "a left 1 0 until -4000")
        self.refuses(TooMany, REFUSED, explained, web, [("t", -4000), ("t", 4000), ("t", 0)])
        self.assertEqual(str(explained(web, [("t", 4000)], [("t", 0)])), "a days " + " ".join(map(str, range(1, 4001))))
        self.refuses(TooMany, REFUSED, explained, web, [("t", 4001)], [("t", 0)])
        self.refuses(TooMany, REFUSED, explained, web, [("t", 10 ** 50)], [("t", 0)])
        # First all sections, then what is less.
        self.assertEqual(str(explained(web, [("t", 9000), ("t", 5000), ("t", 1000)], [("t", 0)])),
                         "a days " + " ".join(map(str, range(1, 1001))))
        # Without a day in common of one table nothing is refused.
        self.assertFalse(explained(web, [("a", 0), ("h", 10 ** 50)]))
        self.assertEqual(str(explained(web, [("a", 0)], [("h", 10 ** 50)])), "a days 0")

    def test_too_many_periods_of_signs(self):
        web = Web(Cycle(1), p=[Back("s", 60), Back("g", 0)], s=[Back("p", 6)], q=[Back("q", 60), Back("g", 0)], g=[])
        self.assertEqual(explained(web, [("p", 0), ("q", 0)])["g"], Days.every(660, 0) & Days.until(0))
        wide = web.put("s", [Back("p", 11)])
        self.refuses(TooMany, REFUSED, explained, wide, [("p", 0), ("q", 0)])
        self.refuses(TooMany, REFUSED, explained, wide, [("p", 0)], [("q", 0)])

    def test_only_ground_records_are_joined(self):
        # A record of b has no source if its place is not in the block ahead; then only its own day is told.
        web = Web(Cycle(1, 2), g=[], b=[Same("g")])
        self.assertEqual([made_from(web, ("b", 2)), made_from(web, ("b", 1))], [[], [("g", 0)]])
        self.assertFalse(explained(web, [("b", 2), ("b", 2 + 3 * 10 ** 30)]))
