"""Over the whole program: from a text to each answer, on papers and at the desk."""
import random

from remadedays.desk import Desk
from remadedays.errors import TooMany
from remadedays.explained import explained
from remadedays.house import House
from remadedays.hung import hung, roots, way
from remadedays.lateness import least_rule, stands
from remadedays.looker import shows_hung, shows_settled, shows_sound, shows_way
from remadedays.lots import lots
from remadedays.papers import hung_paper, settled_paper, sound_paper, way_paper
from remadedays.reader import read_web
from remadedays.rings import ring
from remadedays.rules import Keeping, Rule
from remadedays.settled import settled
from remadedays.texts import web_text
from hungmodel import layered_web, sound_web
from nightmodel import some_keeping, some_rule
from samples import FAR, Checked
from webmodel import some_web


class Whole(Checked):

    def desk_of(self, web, rule, keeping):
        """A desk that was told a web line by line, by its text."""
        desk = Desk()
        rows = web_text(web).split("\n")
        # Each table is there ahead of the ties to it.
        lines = [rows[0], *[" ".join(row.split(" ")[:2]) for row in rows[1:]], *rows[1:]]
        lines += [f"rule {name} {rule[name]}" for name in rule.told] + [f"keep {name} {keeping[name]}" for name in keeping.told]
        self.assertEqual(desk.run(*lines), ["ok"] * len(lines))
        return desk

    def test_from_a_text_to_each_answer(self):
        rng = random.Random(221)
        for _ in range(60):
            drawn = sound_web(rng, ground=True)
            web = read_web(web_text(drawn))
            rule, keeping = some_rule(rng, drawn), some_keeping(rng, drawn) or Keeping()
            rule, keeping = Rule.read(str(rule)), Keeping.read(str(keeping))
            desk = self.desk_of(web, rule, keeping)
            self.assertEqual([desk.web, desk.rule, desk.keeping, web], [drawn, rule, keeping, drawn])
            self.assertEqual(desk.ask("show"), web_text(web).replace("\n", " ; "))
            table, day, late = rng.choice(web.ground), rng.choice([0, 9, -10 ** 40, FAR]), rng.choice([0, 1, 4, 20])
            found = settled(web, rule, keeping, table, day, late)
            line = f"right {found.right} stale {found.stale} half {found.half}".replace("\n", " ; ")
            self.assertEqual(desk.ask(f"settled {table} {day} {late}"), line)
            for name in web:
                for at in (day, day - 3):
                    self.assertEqual(desk.ask(f"hung {name} {at}"), str(hung(web, name, at)).replace("\n", " ; "))
                    self.assertEqual(desk.ask(f"roots {name} {at}"), str(roots(web, name, at)).replace("\n", " ; "))
                    self.assertEqual(desk.ask(f"state {table} {day} {late} {name} {at}"), found.state(name, at))
                    self.assertIs((table, day) in explained(web, [(name, at)]), found.state(name, at) != "clear")
            nights, most = stands(web, rule, keeping).nights, rng.choice([1, 2, 5])
            left = lots(web, table, day, late, most)
            self.assertEqual(desk.run("sound", "stands", f"lots {table} {day} {late} {most}", f"least {late}", "least all"),
                             ["sound", "all" if nights is None else str(nights), "never" if left is None else str(left),
                              str(least_rule(web, late)), str(least_rule(web, None))])
            if nights is None or nights >= late:
                self.assertTrue(found)

    def test_papers_and_lookers(self):
        rng = random.Random(222)
        webs = [sound_web(rng, ground=True) for _ in range(50)] + [layered_web(rng) for _ in range(25)]
        asked = 0
        for web in webs:
            rule, keeping, late = some_rule(rng, web), some_keeping(rng, web), rng.choice([0, 2, 15, 300])
            day = rng.choice([0, 11, -10 ** 59, FAR - 70])
            self.assertIs(shows_sound(web, sound_paper(web)), True)
            for name in web:
                try:
                    paper = hung_paper(web, name, day)
                except TooMany:
                    continue
                asked += 1
                self.assertIs(shows_hung(web, name, day, paper), True)
                for other in web:
                    at = day + rng.randint(-3, 60)
                    paper = way_paper(web, name, day, other, at)
                    self.assertEqual(paper[0] == "way", way(web, name, day, other, at) is not None)
                    self.assertIs(shows_way(web, name, day, other, at, paper), True)
                    self.assertIs(shows_way(web, name, day, other, at + 1, paper),
                                  (other, at + 1) not in hung(web, name, day) and paper[0] == "apart")
                if not web[name]:
                    try:
                        paper = settled_paper(web, rule, keeping, name, day, late)
                    except TooMany:
                        continue
                    self.assertIs(shows_settled(web, rule, keeping, name, day, late, paper), True)
        self.assertGreater(asked, 200)

    def test_rings(self):
        rng = random.Random(223)
        many = 0
        for _ in range(150):
            web = some_web(rng)
            row = ring(web)
            many += row is not None
            self.assertIs(shows_sound(read_web(web_text(web)), sound_paper(web)), True)
            answer = "sound" if row is None else " ".join(["ring", *[f"{name} {day}" for name, day in row]])
            self.assertEqual(self.desk_of(web, Rule(), Keeping()).ask("sound"), answer)
        self.assertGreater(many, 30)

    def test_a_house_comes_to_what_papers_tell(self):
        rng = random.Random(224)
        for _ in range(30):
            web = sound_web(rng, ground=True)
            rule, keeping, late = some_rule(rng, web), some_keeping(rng, web), rng.randint(0, 12)
            day = rng.choice([0, 5, 10 ** 50])
            house = House(web, rule, keeping, day + late)
            house += ("g", day)
            house.sleep(30)
            found = settled(web, rule, keeping, "g", day, late)
            self.assertIs(shows_settled(web, rule, keeping, "g", day, late,
                                        ("settled", found.right.parts, found.stale.parts, found.half.parts)), True)
            for name in web:
                for at in range(day - 20, house.night + 1):
                    word = house.state(0, name, at)
                    if word != "missing":
                        self.assertEqual(word, found.state(name, at))
