"""A house night by night, against nights that are played one after another."""
import random

from remadedays.errors import TooMany
from remadedays.house import House
from remadedays.rules import Keeping, Rule
from remadedays.settled import settled
from remadedays.ties import Back, Sofar
from remadedays.webs import Web
from hungmodel import sound_web
from housemodel import Lived
from nightmodel import Play, some_keeping, some_rule
from samples import FAR, WEEKS, Checked

# The days whose records are asked for, and those that are played.
SEEN = (-25, 45)
PLAYED = (-40, 60)


class Pair:
    """A house and what is played of it, both told the same; the house can be some whole cycles away."""

    def __init__(self, play, rule, keeping, night, by=0):
        self.by = by
        self.house = House(play.web, rule, keeping, night + by)
        self.lived = Lived(play, rule, keeping, night)

    def correct(self, record):
        self.house.correct(record[0], record[1] + self.by)
        self.lived.correct(record)

    def sleep(self, nights):
        self.house.sleep(nights)
        self.lived.sleep(nights)


class Nights(Checked):

    def check_all(self, pair, seen):
        """Each state, and what is wrong, are as they were played."""
        house, lived, by = pair.house, pair.lived, pair.by
        self.assertEqual(house.night, lived.night + by)
        self.assertEqual(house.corrections, tuple((table, day + by, night + by) for table, day, night in lived.corrections))
        for k in range(len(lived.corrections)):
            for record in lived.play.due:
                if SEEN[0] <= record[1] < SEEN[1]:
                    word = house.state(k, record[0], record[1] + by)
                    self.assertEqual(word, lived.state(k, record))
                    seen[word] += 1
        for table in lived.play.web:
            self.assertEqual(house.wrong(table), tuple(day + by for day in lived.wrong(table)))

    def some_fix(self, rng, lived):
        """A ground record to be corrected now; at times one that was corrected before."""
        if lived.corrections and rng.random() < 0.3:
            return rng.choice(lived.corrections)[:2]
        return (rng.choice(lived.play.web.ground), lived.night - rng.choice([0, 0, 1, 2, 3, 5, 8, 13]))

    def live(self, rng, pair, seen):
        """Some nights and corrections between them, each looked at."""
        for _ in range(rng.randint(2, 4)):
            for _ in range(rng.choice([1, 1, 2])):
                pair.correct(self.some_fix(rng, pair.lived))
            self.check_all(pair, seen)
            pair.sleep(rng.choice([1, 1, 1, 2, 4]))
            self.check_all(pair, seen)
        pair.sleep(rng.randint(1, 6))
        self.check_all(pair, seen)

    def test_drawn_webs(self):
        rng = random.Random(131)
        seen = {"missing": 0, "clear": 0, "right": 0, "stale": 0, "half": 0}
        kinds = set()
        for _ in range(180):
            web = sound_web(rng, ground=True)
            kinds |= {tie.__class__.__name__ for table in web for tie in web[table]}
            play = Play(web, *PLAYED)
            self.live(rng, Pair(play, some_rule(rng, web), some_keeping(rng, web), rng.randint(-3, 12)), seen)
        self.assertEqual(len(kinds), 6)
        self.assertGreater(min(seen.values()), 150)

    def test_rules_that_all_go_on(self):
        rng = random.Random(132)
        seen = {"missing": 0, "clear": 0, "right": 0, "stale": 0, "half": 0}
        for _ in range(25):
            web = sound_web(rng, ground=True)
            rule = Rule.of({name: rng.choice(["all", "all", "all", 1]) for name in web.tables})
            self.live(rng, Pair(Play(web, *PLAYED), rule, some_keeping(rng, web, 4), rng.randint(0, 5)), seen)
        self.assertGreater(seen["right"], 1000)

    def test_far_nights(self):
        rng = random.Random(133)
        seen = {"missing": 0, "clear": 0, "right": 0, "stale": 0, "half": 0}
        for _ in range(20):
            web = sound_web(rng, ground=True)
            total = web.cycle.total
            play = Play(web, *PLAYED)
            for by in (-total, 10 ** 58 * total, (FAR - 60) // total * total, -((FAR - 60) // total) * total):
                self.live(rng, Pair(play, some_rule(rng, web), some_keeping(rng, web), rng.randint(0, 5), by), seen)

    def test_each_correction_alone(self):
        rng = random.Random(134)
        for _ in range(25):
            web = sound_web(rng, ground=True)
            rule, keeping = some_rule(rng, web), some_keeping(rng, web)
            house = House(web, rule, keeping, 20)
            alone = []
            for _ in range(rng.randint(2, 5)):
                record = (rng.choice(web.ground), house.night - rng.randint(0, 15))
                alone.append(House(web, rule, keeping, 20))
                alone[-1].sleep_until(house.night)
                alone[-1].correct(*record)
                house.correct(*record)
                nights = rng.randint(0, 3)
                for one in (house, *alone):
                    one.sleep(nights)
                for k, one in enumerate(alone):
                    self.assertEqual(one.corrections, house.corrections[k:k + 1])
                    for name in web:
                        for day in range(-10, 45):
                            self.assertEqual(one.state(0, name, day), house.state(k, name, day))
                for name in web:
                    days = {day for one in alone for day in one.wrong(name)}
                    self.assertEqual(house.wrong(name), tuple(sorted(days)))

    def test_at_last_what_is_settled(self):
        rng = random.Random(135)
        for _ in range(30):
            web = sound_web(rng, ground=True)
            rule, keeping = some_rule(rng, web), some_keeping(rng, web)
            house = House(web, rule, keeping, 50)
            for _ in range(3):
                house.sleep(rng.randint(0, 4))
                house.correct(rng.choice(web.ground), house.night - rng.randint(0, 40))
            house.sleep(rng.choice([1, 2, 60]))
            wrong = {name: set() for name in web}
            for k, (table, day, night) in enumerate(house.corrections):
                found = settled(web, rule, keeping, table, day, night - day)
                for name in web:
                    for at in range(day - 60, house.night + 1):
                        word = house.state(k, name, at)
                        if word != "missing":
                            self.assertEqual(word, found.state(name, at))
                        if word in ("stale", "half"):
                            wrong[name].add(at)
            for name in web:
                self.assertEqual({at for at in house.wrong(name) if at > -20}, {at for at in wrong[name] if at > -20})

    def test_long_after(self):
        # 1,000 nights late and 400 nights more; what hangs would be refused by `settled`.
        web = Web(WEEKS, g=[], a=[Back("a", 60), Back("g", 0)], b=[Back("b", 57), Back("a", 58), Sofar("g")])
        house = House(web, Rule(a=700, b="all"), Keeping(a=1056), 1000)
        house.correct("g", 0)
        self.refuses(TooMany, {"what": "days", "most": 4000}, settled, web, Rule(a=700, b="all"), Keeping(a=1056), "g", 0, 1000)
        self.assertEqual([house.state(0, "a", 0), house.state(0, "b", 3), len(house.wrong("b")) > 100],
                         ["stale", "stale", True])
        house.sleep(400)
        lived = {("g", 0): "right"}
        for day in range(1401):
            for name in "ab":
                sources = [source for source in web.sources(name, day) if source in lived]
                kinds = {lived[source] for source in sources}
                # The a of 58 days ahead can be read for 1,056 nights: until 998 nights behind the night of a b.
                if kinds and day <= 1000 and 1001 > day + (700 if name == "a" else 998):
                    lived[name, day] = "stale"
                elif kinds:
                    lived[name, day] = kinds.pop() if len(kinds) == 1 else "half"
        for name in "ab":
            for day in range(-5, 1401):
                self.assertEqual(house.state(0, name, day), lived.get((name, day), "clear"), (name, day))
            self.assertEqual(house.wrong(name), tuple(day for day in range(1401) if lived.get((name, day)) in ("stale",
                                                                                                               "half")))
        self.assertGreater(len({*lived.values()}), 2)


class Steps(Checked):

    def test_next_night(self):
        web = Web(WEEKS, g=[], a=[Back("g", 0)], b=[Back("a", 2)])
        house = House(web, Rule(a=1, b="all"), night=6)
        house.correct("g", 5)
        self.assertEqual([house.state(0, "g", 5), house.state(0, "a", 5), house.state(0, "a", 6), house.state(0, "b", 7)],
                         ["right", "stale", "clear", "missing"])
        self.assertEqual([house.wrong("g"), house.wrong("a"), house.wrong("b")], [(), (5,), ()])
        house.sleep(0)
        self.assertEqual(house.state(0, "a", 5), "stale")
        house.sleep()
        self.assertEqual([house.state(0, "a", 5), house.state(0, "b", 7), house.wrong("a"), house.wrong("b")],
                         ["stale", "stale", (5,), (7,)])
        house.undo()
        house.undo()
        house.undo()
        house.correct("g", 6)
        house.sleep()
        self.assertEqual([house.state(0, "a", 6), house.state(0, "b", 8), house.wrong("a")], ["right", "missing", ()])
        house.sleep()
        self.assertEqual([house.state(0, "b", 8), house.state(0, "b", 7), house.wrong("b")], ["right", "clear", ()])

    def test_due_ahead_of_the_correction_by_ties_ahead(self):
        house = House(Web(WEEKS, g=[], a=[Back("g", 0)], b=[Back("a", 0), Back("h", 0)], h=[]), Rule(a="all"), night=3)
        house.correct("g", 3)
        house.sleep()
        self.assertEqual([house.state(0, name, 3) for name in "gabh"], ["right", "right", "stale", "clear"])
        self.assertEqual([house.wrong(name) for name in "gabh"], [(), (), (3,), ()])

    def test_one_record_twice(self):
        web = Web(WEEKS, g=[], a=[Back("g", 0), Back("a", 1)])
        house = House(web, Rule(a=2), night=4)
        house.correct("g", 3)
        house.sleep()
        house.correct("g", 3)
        self.assertEqual([house.state(0, "a", 3), house.state(1, "a", 3), house.wrong("a")], ["right", "stale", (3, 4, 5)])
        house.sleep()
        self.assertEqual([house.state(0, "a", 3), house.state(1, "a", 3), house.state(1, "g", 3)], ["right", "stale", "right"])
        self.assertEqual(house.wrong("a"), (3, 4, 5, 6))

    def test_nothing_corrected(self):
        house = House(Web(WEEKS, g=[], a=[Back("g", 0)]), Rule())
        self.assertEqual([house.night, house.corrections, len(house), house.wrong("a"), house.wrong("g")], [0, (), 0, (), ()])
        empty = House(Web(WEEKS), Rule(), None, -7)
        empty.sleep(3)
        self.assertEqual(empty.night, -4)
