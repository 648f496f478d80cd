"""What becomes of a correction in the end."""
import random

from remadedays.cycles import Cycle
from remadedays.errors import BadDay, BadNumber, NoTable, NotGround, TooMany, TooShort, Unsound
from remadedays.hung import hung
from remadedays.records import Records
from remadedays.rules import Keeping, Rule
from remadedays.settled import Settled, settled
from remadedays.ties import Ahead, Back, Last, Sofar, Whole
from remadedays.webs import Web
from hungmodel import loop_web, sound_web, turn_by_looking
from nightmodel import Play, needed_by_looking, some_keeping, some_rule
from samples import FAR, LONG, NOT_DAYS, NOT_NAMES, WEEKS, Checked

ORDER = ("stale", "half", "right")


def state_of(found, record):
    """The state of a record by its sets, without `state`."""
    words = [word for word, held in (("right", found.right), ("stale", found.stale), ("half", found.half)) if record in held]
    return words[0] if words else "clear"


class Played(Checked):

    def test_against_nights_that_are_played(self):
        rng = random.Random(81)
        seen = {"right": 0, "stale": 0, "half": 0}
        for _ in range(110):
            web = sound_web(rng, ground=True)
            play = Play(web, -40, 75)
            for _ in range(5):
                table, day = rng.choice(web.ground), rng.randint(-10, 15)
                rule, keeping, late = some_rule(rng, web), some_keeping(rng, web), rng.choice([0, 1, 2, 3, 5, 9, 20])
                found = settled(web, rule, keeping, table, day, late)
                self.assertIs(type(found), Settled)
                wanted = play.states(rule, keeping, (table, day), late, 25)
                for record, word in wanted.items():
                    self.assertEqual(state_of(found, record), word)
                    self.assertEqual(found.state(*record), word)
                    seen[word] += 1
                for record in play.due:
                    if play.due[record] <= day + late + 25 and record not in wanted:
                        self.assertEqual(found.state(*record), "clear")
        self.assertGreater(min(seen.values()), 100)

    def test_many_nights_late(self):
        rng = random.Random(82)
        for _ in range(25):
            web = sound_web(rng, ground=True, most=3)
            play = Play(web, -10, 330)
            table, late = rng.choice(web.ground), rng.randint(60, 250)
            rule = Rule.of({name: rng.choice([late - 30, late, late + 3, late // 2, "all"]) for name in web.tables})
            keeping = some_keeping(rng, web, late)
            found = settled(web, rule, keeping, table, 3, late)
            for record, word in play.states(rule, keeping, (table, 3), late, 20).items():
                self.assertEqual(found.state(*record), word)

    def test_right_stale_and_half_are_what_hangs(self):
        rng = random.Random(83)
        for _ in range(120):
            web = sound_web(rng, ground=True)
            table, day = rng.choice(web.ground), rng.randint(-30, 30)
            found = settled(web, some_rule(rng, web), some_keeping(rng, web), table, day, rng.randint(0, 30))
            for held in (found.right, found.stale, found.half):
                self.assertIs(type(held), Records)
            self.assertEqual(found.right | found.stale | found.half, hung(web, table, day))
            for one, other in ((found.right, found.stale), (found.right, found.half), (found.stale, found.half)):
                self.assertFalse(one & other)
            self.assertIn((table, day), found.right)
            self.assertIs(bool(found), not found.stale and not found.half)

    def test_far_days(self):
        rng = random.Random(84)
        for _ in range(40):
            web = sound_web(rng, ground=True)
            total = web.cycle.total
            table, day, late = rng.choice(web.ground), rng.randrange(total), rng.randint(0, 20)
            rule, keeping = some_rule(rng, web), some_keeping(rng, web)
            near = settled(web, rule, keeping, table, day, late)
            for by in (total, -10 ** 58 * total, (FAR - day) // total * total, -(FAR // total - 1) * total):
                far = settled(web, rule, keeping, table, day + by, late)
                for one, other in ((near.right, far.right), (near.stale, far.stale), (near.half, far.half)):
                    self.assertEqual(Records({name: one[name] + by for name in one}), other)

    def test_never_better(self):
        rng = random.Random(85)
        worse = 0
        for _ in range(150):
            web = sound_web(rng, ground=True)
            table, day, late = rng.choice(web.ground), rng.randint(-5, 5), rng.randint(0, 12)
            rule, keeping = some_rule(rng, web), some_keeping(rng, web) or Keeping()
            found = settled(web, rule, keeping, table, day, late)
            shorter = {name: rng.randint(0, 5) for name in web.tables}
            needed = needed_by_looking(web)
            less = Rule.of({name: rule[name] if rng.random() < 0.5 else min(shorter[name], 99 if rule[name] == "all" else rule[name])
                            for name in web.tables})
            kept = Keeping.of({name: needed[name] + shorter[name] for name in web.tables if rng.random() < 0.7}) & keeping
            for other in (settled(web, rule, keeping, table, day, late + rng.randint(1, 9)),
                          settled(web, less, keeping, table, day, late), settled(web, rule, kept, table, day, late)):
                for name in found.right | found.stale | found.half:
                    for at in range(day - 30, day + 40):
                        before, behind = found.state(name, at), other.state(name, at)
                        self.assertEqual(before == "clear", behind == "clear")
                        if before != "clear":
                            self.assertLessEqual(ORDER.index(behind), ORDER.index(before))
                            worse += behind != before
        self.assertGreater(worse, 200)

    def test_all_and_everything_kept(self):
        rng = random.Random(86)
        for _ in range(60):
            web = sound_web(rng, ground=True)
            rule = Rule.of({name: "all" for name in web.tables})
            for late in (0, 7, 400):
                for keeping in (None, Keeping()):
                    found = settled(web, rule, keeping, "g", rng.randint(-9, 9), late)
                    self.assertTrue(bool(found))
                    self.assertFalse(found.stale or found.half)

    def test_none_for_all_is_kept(self):
        web = Web(WEEKS, g=[], a=[Back("g", 0), Back("a", 1)])
        for late in range(4):
            one, other = (settled(web, Rule(a=2), kept, "g", 1, late) for kept in (None, Keeping()))
            self.assertEqual([one.right, one.stale, one.half], [other.right, other.stale, other.half])
        self.assertEqual(type(settled(keeping=None, day=1, late=0, table="g", rule=Rule(), web=web)), Settled)


class CannotBeRead(Checked):

    def test_one_night_too_short(self):
        rng = random.Random(87)
        tables = set()
        for _ in range(120):
            web = sound_web(rng, ground=True)
            needed = needed_by_looking(web)
            short = sorted(rng.sample(web.tables, rng.randint(1, len(web))))
            told = {name: needed[name] - (name in short) for name in web.tables}
            wrong = [name for name in short if needed[name]]
            keeping = Keeping.of({name: max(value, 0) for name, value in told.items()})
            if wrong:
                tables.add(wrong[0])
                self.refuses(TooShort, {"table": wrong[0]}, settled, web, Rule(), keeping, "g", 0, 0)
            just = Keeping.of(needed)
            self.assertIn(("g", 0), settled(web, Rule(), just, "g", 0, 0).right)
        self.assertGreater(len(tables), 4)

    def test_several_days_of_one_table(self):
        web = Web(WEEKS, g=[], a=[Back("g", 0), Back("g", 5), Sofar("h")], h=[])
        self.refuses(TooShort, {"table": "g"}, settled, web, Rule(a="all"), Keeping(g=4, h=5), "g", 0, 0)
        self.refuses(TooShort, {"table": "h"}, settled, web, Rule(a="all"), Keeping(g=5, h=5), "g", 0, 0)
        for kept, night in ((5, 0), (6, 1), (8, 3)):
            # The record of a of day 10 reads what is five days older.
            late = night - 1
            keeping = Keeping(g=kept)
            if late >= 0:
                self.assertTrue(settled(web, Rule(a="all"), keeping, "g", 10, late))
            found = settled(web, Rule(a="all"), keeping, "g", 10, night)
            self.assertEqual([str(found.stale), str(found.right)], ["a days 10", "a days 15\ng days 10"])
        # The records of h are read to the end of their week: each of a reads that of the first day.
        found = settled(web, Rule(a="all"), Keeping(h=7), "h", 7, 7)
        self.assertEqual([str(found.stale), str(found.right)], ["a days 7 8 9 10 11 12 13", "h days 7"])
        found = settled(web, Rule(a="all"), Keeping(h=7), "h", 7, 6)
        self.assertTrue(found)

    def test_one_source_of_two_is_gone(self):
        web = Web(WEEKS, g=[], h=[], a=[Back("g", 0), Back("h", 3)], b=[Back("a", 0), Back("g", 1)])
        for kept, late, stale in ((3, 0, "a days 5"), (4, 0, "none"), (4, 1, "a days 5"), (6, 2, "none"), (6, 3, "a days 5")):
            found = settled(web, Rule(a="all", b="all"), Keeping(h=kept), "g", 5, late)
            self.assertEqual(str(found.stale), stale + ("\nb days 5" if stale != "none" else ""))
        # What reads the corrected record and the one that was left as it is is half.
        web = web.put("b", [Back("a", 0), Back("g", 0)])
        found = settled(web, Rule(a="all", b="all"), Keeping(h=3), "g", 5, 0)
        self.assertEqual([str(found.right), str(found.stale), str(found.half)], ["g days 5", "a days 5", "b days 5"])

    def test_what_is_not_read_and_what_is_no_table(self):
        rng = random.Random(88)
        for _ in range(60):
            web = sound_web(rng, ground=True)
            rule, keeping = some_rule(rng, web), some_keeping(rng, web) or Keeping()
            read = {tie.source for name in web for tie in web[name]}
            late = rng.randint(0, 9)
            found = settled(web, rule, keeping, "g", 2, late)
            kept = keeping
            for name in web.tables:
                if name not in read:
                    kept = kept.put(name, rng.choice([0, 5, "all"]))
            told = rule
            for name in (*web.ground, "nowhere", "other"):
                told = told.put(name, rng.choice([0, 1, 5, 4000, "all"]))
            for other in (settled(web, rule, kept.put("nowhere", 0), "g", 2, late), settled(web, told, keeping, "g", 2, late)):
                self.assertEqual([other.right, other.stale, other.half], [found.right, found.stale, found.half])


class States(Checked):

    def setUp(self):
        self.web = Web(LONG, a=[], b=[Back("a", 0), Back("b", 1)], c=[])
        self.found = settled(self.web, Rule(b=1), None, "a", 0, 2)

    def test_of_what_does_not_hang(self):
        self.assertEqual([self.found.state("a", 1), self.found.state("b", -1), self.found.state("c", 0), self.found.state("a", FAR)],
                         ["clear"] * 4)
        self.assertEqual([self.found.state("b", 0), self.found.state(day=2, table="b"), self.found.state("b", FAR)], ["stale"] * 3)
        self.assertEqual(self.found.state("a", 0), "right")

    def test_refused(self):
        for value in [*NOT_NAMES, "ab", "d"]:
            self.refuses(NoTable, {"table": value}, self.found.state, value, 0)
            self.refuses(NoTable, {"table": value}, self.found.state, value, None)
        for value in NOT_DAYS:
            self.refuses(BadDay, {"value": value}, self.found.state, "a", value)
            self.refuses(BadDay, {"value": value}, self.found.state, day=value, table="c")

    def test_properties(self):
        for name in ("right", "stale", "half"):
            self.assertIsInstance(vars(Settled)[name], property)
            with self.assertRaises(AttributeError):
                setattr(self.found, name, Records({}))
        self.assertEqual([bool(self.found), bool(settled(self.web, Rule(), None, "c", 0, 2))], [False, True])


class Refused(Checked):

    def setUp(self):
        self.web = Web(LONG, a=[], b=[Back("a", 1)])
        self.ring = Web(LONG, a=[], c=[Last("b")], b=[Ahead("c", 5)])

    def test_in_order(self):
        for web in (self.web, self.ring):
            for value in [*NOT_NAMES, "ab"]:
                self.refuses(NoTable, {"table": value}, settled, web, Rule(), Keeping(a=0), value, None, None)
            for value in NOT_DAYS:
                self.refuses(NotGround, {"table": "b"}, settled, web, Rule(), Keeping(a=0), "b", value, value)
                self.refuses(BadDay, {"value": value}, settled, web, Rule(), Keeping(a=0), "a", value, -1)
                self.refuses(BadDay, {"value": value}, settled, late=value, day=value, table="a", keeping=None, rule=Rule(), web=web)
            for value in [-1, 1001, FAR, -FAR, *NOT_DAYS]:
                self.refuses(BadNumber, {"value": value}, settled, web, Rule(), Keeping(a=0), "a", 3, value)
                self.refuses(BadNumber, {"value": value}, settled, web, Rule(), None, "a", FAR, late=value)
            self.refuses(NotGround, {"table": "b"}, settled, web, Rule(), None, "b", 0, 0)
        self.refuses(Unsound, {"table": "b"}, settled, self.ring, Rule(), Keeping(a=0, b=0, c=0), "a", 0, 0)
        self.refuses(TooShort, {"table": "a"}, settled, self.web, Rule(), Keeping(a=0), "a", 0, 0)
        for late in (0, 1000):
            self.assertIn(("a", 3), settled(self.web, Rule(), Keeping(a=1), "a", 3, late).right)

    def test_too_short_ahead_of_too_many(self):
        wide = loop_web(59, {"a": [("b", 60), ("g", 0)], "b": [("c", 60)], "c": [("a", 60)], "g": []})
        self.refuses(TooShort, {"table": "b"}, settled, wide, Rule(), Keeping(b=59, c=3), "g", 0, 0)
        self.refuses(TooMany, {"what": "days", "most": 4000}, settled, wide, Rule(), Keeping(b=60, c=60), "g", 0, 0)


def rows_of_states(tables, rule, late, many):
    """For each table of a loop web three rows of bits: the days that are right, stale, half behind a correction of g."""
    states = {name: ["clear"] * many for name in tables}
    for day in range(many):
        for name in ["g", *sorted(tables)[:-1]]:
            kinds = {states[source][day - number] for source, number in tables[name] if day >= number} - {"clear"}
            if name == "g":
                states[name][day] = "right" if day == 0 else "clear"
            elif kinds and day <= late and rule[name] != "all" and late + 1 > day + rule[name]:
                states[name][day] = "stale"
            elif kinds:
                states[name][day] = kinds.pop() if len(kinds) == 1 else "half"
    return [[state == word for state in states[name]] for word in ("right", "stale", "half") for name in sorted(tables)]


class Bounds(Checked):

    def test_end_of_the_first_turn(self):
        for more in range(5, 16):
            web = loop_web(42, {"a": [("b", 60), ("g", 60)], "b": [("a", 35)], "e": [("b", more)], "g": []})
            for rule in (Rule(), Rule(a="all", b="all", e="all")):
                if 95 + more - 94 + 3990 <= 4000:
                    self.assertEqual(bool(settled(web, rule, None, "g", 0, 0)), True)
                else:
                    self.refuses(TooMany, {"what": "days", "most": 4000}, settled, web, rule, None, "g", 0, 0)

    def test_by_looking(self):
        rng = random.Random(89)
        seen = {True: 0, False: 0}
        for _ in range(60):
            one, other = rng.sample(range(53, 61), 2)
            tables = {"a": [("b", one), ("b", other), ("g", 0)], "b": [("a", rng.randint(1, 9))], "g": [],
                      "c": [("b", rng.randint(0, 60)), ("g", 0)]}
            rule = Rule.of({name: rng.choice([0, 400, 900, 960, "all"]) for name in "abc"})
            late, total = rng.choice([0, 400, 950, 1000]), rng.randint(1, 60)
            rows = rows_of_states(tables, rule, late, 16000)
            period, begin = turn_by_looking(rows, total, 7000) or (4001, 0)
            web = loop_web(total, tables)
            told = period <= 4000 and begin + period <= 4000
            seen[told] += 1
            if told:
                found = settled(web, rule, None, "g", 0, late)
                for held, three in zip((found.right, found.stale, found.half), (rows[:4], rows[4:8], rows[8:])):
                    for name, row in zip("abcg", three):
                        self.assertEqual(list(held[name].within(-9, 5000)), [day for day in range(5000) if row[day]])
            else:
                self.refuses(TooMany, {"what": "days", "most": 4000}, settled, web, rule, None, "g", 0, late)
        self.assertGreater(min(seen.values()), 2)

    def test_what_hangs_can_be_told_and_the_three_sets_cannot(self):
        for total in range(20, 34):
            # All days of a hang; those are half that are sums of 63 and 65, in c five days later, the others stale.
            web = loop_web(total, {"a": [("c", 58), ("c", 60), ("b", 0), ("g", 0)], "c": [("a", 5)], "b": [("b", 1), ("g", 0)],
                                   "g": []})
            self.assertEqual(str(hung(web, "g", 0)["a"]), "right 1 0 from 0")
            self.assertTrue(settled(web, Rule(a="all", b="all"), None, "g", 0, 1))
            if 63 * 65 - 63 - 65 + 1 + 5 + total <= 4000:
                found = settled(web, Rule(a="all"), None, "g", 0, 1)
                self.assertEqual([found.half["c"].right_period, found.half["c"].parts[3]], [1, 3973])
            else:
                self.refuses(TooMany, {"what": "days", "most": 4000}, settled, web, Rule(a="all"), None, "g", 0, 1)

    def test_a_thousand_nights_late(self):
        web = Web(WEEKS, g=[], t=[Back("t", 1), Back("g", 0)], w=[Whole("g"), Whole("w")])
        found = settled(web, Rule(t=1000, w=3), None, "g", 4, 1000)
        self.assertEqual(str(found.stale["t"]), "right 1 0 from 4")
        found = settled(web, Rule(t=1001, w=3), None, "g", 4, 1000)
        self.assertEqual(str(found.right["t"]), "right 1 0 from 4")
        self.assertEqual(str(found.right), "g days 4\nt right 1 0 from 4")
        self.assertEqual(str(found.stale), "w right 1 0 from 7")
        found = settled(web.put("w", [Whole("g"), Back("t", 7)]), Rule(t=1, w="all"), None, "g", 4, 1000)
        self.assertEqual([str(held["w"]) for held in (found.right, found.half, found.stale)],
                         ["days 7 8 9 10", "days 11 12 13", "right 1 0 from 14"])
