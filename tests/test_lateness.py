"""The greatest lateness that is stood, and the least rule for one."""
import random

from remadedays.cycles import Cycle
from remadedays.errors import BadNumber, TooShort, Unsound
from remadedays.hung import hung
from remadedays.lateness import Stands, least_rule, stands
from remadedays.rings import heights
from remadedays.rules import Keeping, Rule
from remadedays.settled import settled
from remadedays.ties import Ahead, Back, Last, Sofar, Whole
from remadedays.webs import Web
from hungmodel import loop_web, sound_web
from nightmodel import Play, needed_by_looking, some_keeping, some_rule
from samples import FAR, LONG, NOT_DAYS, WEEKS, Checked

# In the drawn webs and rules a lateness that is not stood is less than this.
LATE = 60


def corrections(web):
    """All records of ground tables of one round of the cycle, by table and then by day."""
    return [(table, day) for table in web.ground for day in range(web.cycle.total)]


class Greatest(Checked):

    def beyond_by_looking(self, web, play, rule, keeping):
        """What `beyond` tells, by going through all latenesses and all corrections."""
        for late in range(LATE):
            for table, day in corrections(web):
                found = play.lost(rule, keeping, (table, day), late)
                if found is not None:
                    return (table, day, late, *found)
        return None

    def test_against_all_corrections_of_a_round(self):
        rng = random.Random(91)
        seen = {"none": 0, "old": 0, "gone": 0, "first night": 0, "late": 0}
        for _ in range(120):
            web = sound_web(rng, ground=True)
            play = Play(web, -30, 2 * LATE + 10)
            for _ in range(3):
                rule, keeping = some_rule(rng, web, 12), some_keeping(rng, web, 12)
                if rng.random() < 0.5:
                    rule = Rule.of({name: rng.choice([8, 20, "all", "all"]) for name in web.tables})
                wanted = self.beyond_by_looking(web, play, rule, keeping)
                found = stands(web, rule, keeping)
                self.assertIs(type(found), Stands)
                if found.beyond is not None and found.nights + 1 >= LATE:
                    self.assertIsNone(wanted)
                    continue
                self.assertEqual(found.beyond, wanted)
                self.assertEqual(found.nights, None if wanted is None else wanted[2] - 1)
                seen["none" if wanted is None else wanted[4][0]] += 1
                seen["first night" if found.nights == -1 else "late"] += 1
        self.assertGreater(min(seen.values()), 5)

    def test_each_correction_up_to_it_leaves_all_right(self):
        rng = random.Random(92)
        for _ in range(70):
            web = sound_web(rng, ground=True)
            rule, keeping = some_rule(rng, web, 12), some_keeping(rng, web, 12)
            found = stands(web, rule, keeping)
            if found.nights is None:
                for table, day in corrections(web):
                    for late in (0, 30, 1000):
                        self.assertTrue(settled(web, rule, keeping, table, day, late))
                continue
            for table, day in corrections(web):
                for late in {min(0, found.nights), found.nights // 2, found.nights} - {-1}:
                    self.assertTrue(settled(web, rule, keeping, table, day, late))
            table, day, late, record, cause = found.beyond
            self.assertEqual(late, found.nights + 1)
            wrong = settled(web, rule, keeping, table, day, late)
            self.assertFalse(wrong)
            self.assertEqual(wrong.state(*record), "stale")
            self.assertIn(cause[0], ("old", "gone"))
            for other in corrections(web)[:corrections(web).index((table, day))]:
                self.assertTrue(settled(web, rule, keeping, *other, late))

    def test_told(self):
        web = Web(WEEKS, g=[], h=[], a=[Back("g", 2), Back("h", 0)], b=[Back("a", 1), Back("g", 5)], c=[Sofar("h"), Back("c", 7)])
        every = Rule(a="all", b="all", c="all")
        self.assertEqual([stands(web, every).nights, stands(web, every).beyond], [None, None])
        # Ground records of h are read at once, those of g two days later, by b five days later or by way of a three.
        self.assertEqual(stands(web, every.put("a", 4)).beyond, ("h", 0, 4, ("a", 0), ("old",)))
        self.assertEqual(stands(web, every.put("b", 4)).beyond, ("h", 0, 5, ("b", 1), ("old",)))
        self.assertEqual(stands(web.put("a", [Back("g", 2)]), every.put("b", 4)).beyond, ("g", 0, 7, ("b", 3), ("old",)))
        self.assertEqual(stands(web, every.put("b", 0)).nights, 0)
        self.assertEqual(stands(web, Rule()).beyond, ("h", 0, 0, ("a", 0), ("old",)))
        self.assertEqual(stands(web, Rule()).nights, -1)
        self.assertEqual(stands(web, every, Keeping(h=6)).beyond, ("h", 6, 0, ("c", 6), ("gone", ("h", 0))))
        self.assertEqual(stands(web, every, Keeping(h=8)).beyond, ("h", 6, 2, ("c", 6), ("gone", ("h", 0))))
        self.assertEqual(stands(web, every, Keeping(h=20, a=3)).beyond, ("h", 0, 3, ("b", 1), ("gone", ("a", 0))))
        self.assertEqual(stands(web, every, Keeping(h=20, a=9, g=6)).beyond, ("h", 0, 2, ("b", 1), ("gone", ("g", -4))))
        self.assertEqual(stands(keeping=Keeping(h=7, a=9, c=7), rule=every, web=web).beyond, ("h", 0, 0, ("c", 0), ("gone", ("c", -7))))

    def test_first_of_several(self):
        web = Web(LONG, h=[], g=[], m=[], a=[Last("g"), Back("h", 1)], b=[Last("g"), Back("h", 1)], x=[Ahead("m", 1)])
        rule = Rule(a=1, b=1, x="all")
        # The last day of a block is read first on the first day of the next one.
        self.assertEqual(stands(web, rule).beyond, ("g", 1, 2, ("a", 2), ("old",)))
        self.assertEqual(stands(web, rule.put("a", 2)).beyond, ("g", 1, 2, ("b", 2), ("old",)))
        self.assertEqual(stands(web, rule.put("a", 2).put("b", "all")).beyond, ("g", 1, 3, ("a", 2), ("old",)))
        self.assertEqual(stands(web, rule.put("x", 0)).beyond, ("m", 0, 0, ("x", -1), ("old",)))
        # Both causes: the rule is told.
        self.assertEqual(stands(web, rule, Keeping(h=2, g=4)).beyond, ("g", 1, 2, ("a", 2), ("old",)))
        self.assertEqual(stands(web, rule.put("a", 2).put("b", 9), Keeping(h=2, g=4)).beyond,
                         ("g", 1, 2, ("a", 2), ("gone", ("h", 1))))
        # Of two that are gone the least one is told.
        late = Web(LONG, g=[], h=[], a=[Back("h", 1), Back("g", 2), Back("g", 1)])
        self.assertEqual(stands(late, Rule(a="all"), Keeping(g=3, h=2)).beyond, ("g", 0, 2, ("a", 1), ("gone", ("g", -1))))
        self.assertEqual(stands(late, Rule(a="all"), Keeping(g=4, h=2)).beyond, ("g", 0, 2, ("a", 1), ("gone", ("h", 0))))

    def test_ground_tables_alone(self):
        for web in (Web(WEEKS), Web(WEEKS, g=[]), Web(LONG, g=[], h=[]), Web(WEEKS, g=[], a=[Back("a", 1)])):
            for keeping in (None, Keeping(g=0)):
                found = stands(web, Rule(g=3), keeping)
                self.assertEqual([found.nights, found.beyond], [None, None])

    def test_keepings_without_an_end_and_long_ones(self):
        web = Web(WEEKS, g=[], a=[Back("g", 0)])
        for number in (0, 7, 3999, 4000):
            self.assertEqual(stands(web, Rule(a=number)).nights, number - 1)
            self.assertEqual(stands(web, Rule(a="all"), Keeping(g=number)).nights, number - 1)
            self.assertEqual(stands(web, Rule(a="all"), Keeping(a=number)).nights, None)

    def test_webs_that_come_round_too_late(self):
        # The bounds of the sets do not hold here.
        web = loop_web(59, {"a": [("b", 60), ("g", 0)], "b": [("c", 60)], "c": [("a", 60)], "g": []})
        self.assertEqual(stands(web, Rule(a=7, b=4000, c=4000)).beyond, ("g", 0, 7, ("a", 0), ("old",)))
        self.assertEqual(stands(web, Rule(a="all", b=4000, c=4000)).beyond, ("g", 0, 4060, ("c", 60), ("old",)))

    def test_properties(self):
        for name in ("nights", "beyond"):
            self.assertIsInstance(vars(Stands)[name], property)

    def test_refused(self):
        ring = Web(LONG, a=[], c=[Last("b")], b=[Ahead("c", 5)])
        self.refuses(Unsound, {"table": "b"}, stands, ring, Rule(), Keeping(b=0, c=0, a=0))
        web = Web(LONG, b=[Back("c", 3), Back("a", 1)], a=[], c=[Back("a", 0)])
        for keeping, table in ((Keeping(a=0, c=0), "a"), (Keeping(a=1, c=2), "c"), (Keeping(c=0), "c")):
            self.refuses(TooShort, {"table": table}, stands, web, Rule(), keeping)
        self.assertEqual(stands(web, Rule(), Keeping(a=1, c=3)).nights, -1)
        self.assertEqual(stands(web, Rule(), Keeping(a=1, b=0, c=3, d=0)).nights, -1)


class Least(Checked):

    def test_stands_and_no_less_does(self):
        rng = random.Random(93)
        many = 0
        for _ in range(60):
            web = sound_web(rng, ground=True)
            for late in (0, 1, 2, 5, rng.randint(3, 60), rng.randint(60, 3999), 3999):
                rule = least_rule(web, late)
                self.assertIs(type(rule), Rule)
                found = stands(web, rule).nights
                self.assertTrue(found is None or found >= late)
                for name in web.tables:
                    if rule[name] != 0:
                        self.assertLess(stands(web, rule.put(name, rule[name] - 1)).nights, late)
                        many += 1
                self.assertLessEqual(set(rule.told), set(web.tables) - set(web.ground))
        self.assertGreater(many, 300)

    def test_for_all_latenesses(self):
        rng = random.Random(94)
        seen = set()
        for _ in range(100):
            web = sound_web(rng, ground=True)
            tables = {name for table, day in corrections(web) for name in hung(web, table, day)} - set(web.ground)
            rule = least_rule(web, None)
            self.assertEqual(rule, Rule.of({name: "all" for name in tables}))
            self.assertIsNone(stands(web, rule).nights)
            for name in tables:
                self.assertIsNotNone(stands(web, rule.put(name, 4000)).nights)
            seen.add(len(web) - len(tables) - len(web.ground))
        self.assertGreater(len(seen), 1)

    def test_told(self):
        web = Web(Cycle(60), g=[], a=[Back("g", 60)], b=[Back("a", 59)], c=[Ahead("g", 20), Back("c", 1)], d=[Back("d", 3)])
        self.assertEqual(str(least_rule(web, 0)), "c 1")
        self.assertEqual(str(least_rule(web, 59)), "c 60")
        self.assertEqual(str(least_rule(web, 60)), "a 1 c 61")
        self.assertEqual(str(least_rule(web, 3999)), "a 3940 b 3881 c 4000")
        self.assertEqual(str(least_rule(late=None, web=web)), "a all b all c all")
        self.assertEqual(str(least_rule(Web(LONG, g=[], a=[Last("g")], b=[Whole("g")]), 2)), "a 2 b 2")
        self.assertEqual([str(least_rule(Web(WEEKS, g=[]), late)) for late in (0, 3999, None)], ["none"] * 3)
        self.assertEqual(str(least_rule(Web(WEEKS), None)), "none")

    def test_refused(self):
        ring = Web(LONG, a=[], c=[Last("b")], b=[Ahead("c", 5)])
        web = Web(LONG, a=[])
        for value in [-1, 4000, FAR, -FAR, "all", *[value for value in NOT_DAYS if value is not None]]:
            self.refuses(BadNumber, {"value": value}, least_rule, web, value)
            self.refuses(BadNumber, {"value": value}, least_rule, late=value, web=ring)
        for late in (0, 3999, None):
            self.refuses(Unsound, {"table": "b"}, least_rule, ring, late)
            self.assertEqual(heights(web).steps, 5)
