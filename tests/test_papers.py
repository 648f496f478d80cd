"""Papers: what they are built of, and what they tell."""
import random

from remadedays.cycles import Cycle
from remadedays.errors import BadDay, BadNumber, NotGround, NoTable, TooMany, TooShort, Unsound
from remadedays.hung import hung, way
from remadedays.papers import hung_paper, settled_paper, sound_paper, way_paper
from remadedays.records import Records
from remadedays.days import Days
from remadedays.rings import heights, ring
from remadedays.rules import Keeping, Rule
from remadedays.settled import settled
from remadedays.ties import Ahead, Back, Last, Sofar
from remadedays.webs import Web
from hungmodel import loop_web, sound_web
from nightmodel import some_keeping, some_rule
from samples import FAR, LONG, NOT_DAYS, NOT_NAMES, WEEKS, Checked
from webmodel import some_web


class Made(Checked):

    def check_built(self, paper):
        """A paper is built of tuples, strings, integers and None alone."""
        self.assertIn(type(paper), (tuple, str, int, type(None)))
        if type(paper) is tuple:
            for part in paper:
                self.check_built(part)

    def records_of(self, parts):
        """The Records that the parts tell, which stand in ascending order of their tables."""
        names = [name for name, _ in parts]
        self.assertEqual(names, sorted(set(names)))
        found = Records({name: Days.from_parts(told) for name, told in parts})
        self.assertEqual(found.tables, tuple(names))
        return found

    def test_hung_papers(self):
        rng = random.Random(151)
        for _ in range(60):
            web = sound_web(rng)
            for table in web:
                day = rng.choice([0, 5, -3, 10 ** 40, -FAR, FAR])
                paper = hung_paper(web, table, day)
                self.check_built(paper)
                self.assertEqual(paper, ("hung", hung(web, table, day).parts))
                self.assertEqual(self.records_of(paper[1]), hung(web, table, day))
                self.assertEqual(hung_paper(day=day, web=web, table=table), paper)

    def test_way_papers(self):
        rng = random.Random(152)
        seen = {"way": 0, "apart": 0}
        for _ in range(80):
            web = sound_web(rng)
            for _ in range(6):
                (table, other), day = rng.choices(web.tables, k=2), rng.choice([0, 7, -10 ** 50])
                other_day = day + rng.randint(-4, 20)
                paper = way_paper(web, table, day, other, other_day)
                self.check_built(paper)
                found = way(web, table, day, other, other_day)
                if found is None:
                    self.assertEqual(paper, ("apart", hung(web, table, day).parts))
                    self.assertNotIn((other, other_day), self.records_of(paper[1]))
                else:
                    self.assertEqual(paper, ("way", found))
                seen[paper[0]] += 1
                self.assertEqual(way_paper(other_day=other_day, other=other, web=web, day=day, table=table), paper)
        self.assertGreater(min(seen.values()), 100)

    def test_sound_papers(self):
        rng = random.Random(153)
        seen = {"ring": 0, "heights": 0}
        for _ in range(150):
            web = some_web(rng)
            paper = sound_paper(web)
            self.check_built(paper)
            seen[paper[0]] += 1
            if ring(web) is not None:
                self.assertEqual(paper, ("ring", ring(web)))
                continue
            found = heights(web)
            rows = [(table, tuple(found[table, rest] for rest in range(web.cycle.total))) for table in web.tables]
            self.assertEqual(paper, ("heights", tuple(rows)))
        self.assertGreater(min(seen.values()), 30)
        self.assertEqual(sound_paper(web=Web(LONG)), ("heights", ()))
        self.assertEqual(sound_paper(Web(LONG, a=[])), ("heights", (("a", (0, 0, 0, 0, 0)),)))

    def test_settled_papers(self):
        rng = random.Random(154)
        for _ in range(60):
            web = sound_web(rng, ground=True)
            rule, keeping, late = some_rule(rng, web), some_keeping(rng, web), rng.randint(0, 20)
            day = rng.choice([0, 3, 10 ** 50, -FAR])
            paper = settled_paper(web, rule, keeping, "g", day, late)
            self.check_built(paper)
            found = settled(web, rule, keeping, "g", day, late)
            self.assertEqual(paper, ("settled", found.right.parts, found.stale.parts, found.half.parts))
            self.assertEqual([self.records_of(parts) for parts in paper[1:]], [found.right, found.stale, found.half])
            self.assertEqual(settled_paper(late=late, day=day, table="g", keeping=keeping, rule=rule, web=web), paper)


class Refused(Checked):

    def setUp(self):
        self.web = Web(LONG, a=[], b=[Back("a", 1)])
        self.ring = Web(LONG, a=[], c=[Last("b")], b=[Ahead("c", 5)])

    def test_places(self):
        for web in (self.web, self.ring):
            for value in [*NOT_NAMES, "ab"]:
                told = {"table": value}
                self.refuses(NoTable, told, hung_paper, web, value, None)
                self.refuses(NoTable, told, way_paper, web, value, None, value, None)
                self.refuses(NoTable, told, way_paper, web, "a", 0, value, None)
                self.refuses(NoTable, told, settled_paper, web, Rule(), Keeping(a=0), value, None, None)
            for value in NOT_DAYS:
                told = {"value": value}
                self.refuses(BadDay, told, hung_paper, web, "a", value)
                self.refuses(BadDay, told, way_paper, web, "a", value, "x", None)
                self.refuses(BadDay, told, way_paper, web, "a", 3, "b", value)
                self.refuses(NotGround, {"table": "b"}, settled_paper, web, Rule(), Keeping(a=0), "b", value, value)
                self.refuses(BadDay, told, settled_paper, web, Rule(), Keeping(a=0), "a", value, -1)
                self.refuses(BadNumber, told, settled_paper, web, Rule(), Keeping(a=0), "a", 3, value)
            self.refuses(BadNumber, {"value": 1001}, settled_paper, web, Rule(), None, "a", 3, 1001)

    def test_webs(self):
        told = {"table": "b"}
        self.refuses(Unsound, told, hung_paper, self.ring, "a", 0)
        self.refuses(Unsound, told, way_paper, self.ring, "a", 0, "a", 10 ** 30)
        self.refuses(Unsound, told, settled_paper, self.ring, Rule(), Keeping(b=0), "a", 0, 0)
        self.assertEqual(sound_paper(self.ring), ("ring", ring(self.ring)))
        self.refuses(TooShort, {"table": "a"}, settled_paper, self.web, Rule(), Keeping(a=0), "a", 0, 0)

    def test_too_many(self):
        told = {"what": "days", "most": 4000}
        wide = loop_web(59, {"a": [("b", 60), ("g", 0)], "b": [("c", 60)], "c": [("a", 60)], "g": []})
        self.refuses(TooMany, told, hung_paper, wide, "g", 0)
        self.refuses(TooMany, told, settled_paper, wide, Rule(), None, "g", 0, 0)
        # A way is told, what hangs would be too much.
        self.assertEqual(way_paper(wide, "g", 0, "b", 120), ("way", (("g", 0), ("a", 0), ("c", 60), ("b", 120))))
        self.refuses(TooMany, told, way_paper, wide, "g", 0, "c", 1)
        self.refuses(TooMany, told, way_paper, self.web, "a", 0, "a", 4001)
        self.assertEqual(way_paper(self.web, "a", 0, "a", 4000)[0], "apart")
        self.assertEqual(sound_paper(wide)[0], "heights")
        self.assertEqual(way_paper(Web(WEEKS, g=[], w=[Sofar("g")]), "g", 0, "w", 6), ("way", (("g", 0), ("w", 6))))
        self.assertEqual(hung_paper(Web(Cycle(1), g=[]), "g", FAR), ("hung",
                                                                     (("g", ((1, ()), FAR, (FAR,), FAR + 1, (1, ()))),)))
