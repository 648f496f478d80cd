"""Lookers, over drawn webs: which papers they let by."""
import random

from remadedays.cycles import Cycle
from remadedays.days import Days
from remadedays.hung import hung, roots
from remadedays.looker import shows_hung, shows_settled, shows_sound, shows_way
from remadedays.papers import hung_paper, settled_paper, sound_paper, way_paper
from remadedays.records import Records
from remadedays.rings import heights, ring
from remadedays.rules import Rule
from remadedays.ties import Ahead, Back, Same, Sofar
from remadedays.webs import Web
from hungmodel import sound_web
from nightmodel import some_keeping, some_rule
from papermodel import are_heights, changed, is_closed, is_ring, is_way, records_in, same
from samples import FAR, HOLDERS, NESTED, ODD, TOO_LONG, WEEKS, Checked
from webmodel import made_from, numbers, rows_from, some_web

# Any values, none of which is a paper.
ANY = [*ODD, *HOLDERS, *NESTED, *TOO_LONG, 0, 1, "hung", "ring", ("hung",), ("way",), ("apart",), ("ring",), ("heights",),
       ("settled",), ("hung", None), ("way", ()), ("ring", ()), ("ring", (("a", 0),)), ("hung", 1, 2), ("settled", (), ()),
       ("way", None), ("apart", None), ("ring", 5), ("heights", None), ("heights", (None,)), ("settled", None, None, None),
       ("hung", ()), ("apart", ()), ("settled", (), (), ()), ["hung", ()], {"hung": ()}]
DAYS = (0, 3, -5, 10 ** 40, -10 ** 59, FAR, -FAR)


class Hung(Checked):

    def test_papers_of_the_question(self):
        rng = random.Random(161)
        for _ in range(120):
            web = sound_web(rng)
            for table in web:
                day = rng.choice(DAYS)
                paper = hung_paper(web, table, day)
                self.assertIs(shows_hung(web, table, day, paper), True)
                self.assertIs(shows_hung(paper=paper, day=day, table=table, web=web), True)

    def test_changed_papers(self):
        rng = random.Random(162)
        kept = 0
        for _ in range(120):
            web = sound_web(rng)
            table, day = rng.choice(web.tables), rng.choice(DAYS)
            paper = hung_paper(web, table, day)
            for _ in range(60):
                other = changed(rng, paper)
                if rng.random() < 0.3:
                    other = changed(rng, other)
                kept += same(other, paper)
                self.assertIs(shows_hung(web, table, day, other), same(other, paper), (paper, other))
        self.assertGreater(kept, 5)

    def test_papers_of_other_records(self):
        rng = random.Random(163)
        for _ in range(60):
            web = sound_web(rng)
            day = rng.choice(DAYS)
            papers = {(table, day + more): hung_paper(web, table, day + more) for table in web for more in range(-9, 10)
                      if abs(day + more) <= FAR}
            asked = rng.sample(list(papers), 3)
            for record in asked:
                for other, paper in papers.items():
                    self.assertIs(shows_hung(web, *record, paper), record == other)

    def test_papers_of_other_webs(self):
        rng = random.Random(164)
        seen = {True: 0, False: 0}
        for _ in range(150):
            web = sound_web(rng)
            table = rng.choice([name for name in web if web[name]] or ["none"])
            if table == "none":
                continue
            other = web.put(table, web[table][1:])
            if ring(other) is not None:
                continue
            for name in web:
                paper = hung_paper(web, name, 0)
                wanted = same(paper, hung_paper(other, name, 0))
                self.assertIs(shows_hung(other, name, 0, paper), wanted)
                seen[wanted] += 1
        self.assertGreater(min(seen.values()), 40)

    def test_more_and_less_than_hangs(self):
        rng = random.Random(165)
        many = 0
        for _ in range(100):
            web = sound_web(rng)
            table, day = rng.choice(web.tables), rng.randint(-5, 5)
            found = hung(web, table, day)
            for _ in range(8):
                name, at = rng.choice(web.tables), day + rng.randint(-20, 40)
                one = Records({name: Days.of([at])})
                more = found | hung(web, name, at)
                for other in (found | one, found - one, more, found - hung(web, name, at),
                              found | Records({name: Days.from_day(at)}), found | Records({name: Days.until(at)})):
                    if other != found:
                        many += 1
                        self.assertIs(shows_hung(web, table, day, ("hung", other.parts)), False)
        self.assertGreater(many, 1500)

    def test_sets_that_only_repeat(self):
        # What hangs on no first record: each is made from one in it, and none need not be.
        web = Web(WEEKS, a=[Back("a", 7)], b=[Back("a", 1)])
        for sets in ({"a": Days.every(7, 0), "b": Days.every(7, 1)}, {"a": Days.always(), "b": Days.always()},
                     {"a": Days.every(7, 0) & Days.from_day(0), "b": Days.every(7, 1)}):
            self.assertIs(shows_hung(web, "a", 0, ("hung", Records(sets).parts)), False)
        right = {"a": Days.every(7, 0) & Days.from_day(0), "b": Days.every(7, 1) & Days.from_day(0)}
        self.assertIs(shows_hung(web, "a", 0, ("hung", Records(right).parts)), True)
        for day in (7, 14, 7000, 7 * 10 ** 50, -7, 1):
            self.assertIs(shows_hung(web, "a", day, ("hung", Records(right).parts)), False)
        # The record itself is the only one that need not be made from another one: not one of each turn.
        ground = Web(WEEKS, g=[], a=[Back("g", 0)])
        turns = {"g": Days.every(7, 0) & Days.from_day(0), "a": Days.every(7, 0) & Days.from_day(0)}
        for day in (0, 7, 14, 21, 28, 35, 7 * 10 ** 40):
            self.assertIs(shows_hung(ground, "g", day, ("hung", Records(turns).parts)), False)

    def test_tables_without_a_day(self):
        web = Web(WEEKS, a=[], g=[], z=[Back("a", 1)])
        none, paper = Days.none().parts, hung_paper(web, "g", 3)
        for other in ((("a", none), *paper[1]), (*paper[1], ("z", none)), (*paper[1], *paper[1]),
                      (*paper[1], ("zz", paper[1][0][1]))):
            self.assertIs(shows_hung(web, "g", 3, ("hung", other)), False)
            self.assertIs(shows_way(web, "g", 3, "a", 3, ("apart", other)), False)
            self.assertIs(shows_settled(web, Rule(), None, "g", 3, 0, ("settled", other, (), ())), False)
        self.assertIs(shows_settled(web, Rule(), None, "g", 3, 0, ("settled", paper[1], (("a", none),), ())), False)
        self.assertIs(shows_settled(web, Rule(), None, "g", 3, 0, ("settled", paper[1], (), ())), True)
        # In this order the tables do not ascend.
        both = hung_paper(web, "a", 3)[1]
        self.assertEqual([name for name, _ in both], ["a", "z"])
        self.assertIs(shows_hung(web, "a", 3, ("hung", both[::-1])), False)

    def test_any_values(self):
        web = sound_web(random.Random(166), ground=True)
        for value in ANY:
            self.assertIs(shows_hung(web, "g", 0, value), False)
            self.assertIs(shows_hung(web, "g", 0, ("hung", value)), False)
            self.assertIs(shows_hung(web, "g", 0, (value, hung_paper(web, "g", 0)[1])), same(value, "hung"))
            self.assertIs(shows_hung(web, "g", 0, ("hung", (("g", value),))), False)
            self.assertIs(shows_hung(web, "g", 0, ("hung", ((value, Days.of([0]).parts),))), False)


class Ways(Checked):

    def some_way(self, rng, web, record, most):
        """A drawn row of records, each made from the one ahead."""
        row = [record]
        while len(row) < most and abs(row[-1][1]) <= FAR and web.users(*row[-1]):
            row.append(rng.choice(web.users(*row[-1])))
        return tuple(row)

    def test_papers_of_the_question(self):
        rng = random.Random(171)
        seen = {"way": 0, "apart": 0}
        for _ in range(80):
            web = sound_web(rng)
            day = rng.choice(DAYS)
            for _ in range(8):
                one, other = (rng.choice(web.tables), day), (rng.choice(web.tables), day + rng.randint(-9, 20))
                if abs(other[1]) <= FAR:
                    paper = way_paper(web, *one, *other)
                    seen[paper[0]] += 1
                    self.assertIs(shows_way(web, *one, *other, paper), True)
                    self.assertIs(shows_way(paper=paper, other_day=other[1], other=other[0], day=day, table=one[0], web=web),
                                  True)
        self.assertGreater(min(seen.values()), 100)

    def test_ways_of_any_length(self):
        rng = random.Random(172)
        longest = 0
        for _ in range(150):
            web = sound_web(rng)
            row = self.some_way(rng, web, (rng.choice(web.tables), rng.choice(DAYS)), rng.choice([1, 2, 3, 9, 40]))
            while abs(row[-1][1]) > FAR:
                row = row[:-1]
            longest = max(longest, len(row))
            self.assertIs(shows_way(web, *row[0], *row[-1], ("way", row)), True)
            for cut in range(1, len(row)):
                self.assertIs(shows_way(web, *row[0], *row[-1], ("way", row[:cut])), row[cut - 1] == row[-1])
                self.assertIs(shows_way(web, *row[0], *row[-1], ("way", row[cut:])), False)
            if len(row) > 1:
                self.assertIs(shows_way(web, *row[0], *row[-1], ("way", row[::-1])), False)
            self.assertIs(shows_way(web, *row[0], *row[-1], ("way", [*row])), False)
        self.assertEqual(longest, 40)

    def test_changed_ways(self):
        rng = random.Random(173)
        seen = {True: 0, False: 0}
        for _ in range(120):
            web = sound_web(rng)
            row = self.some_way(rng, web, (rng.choice(web.tables), rng.randint(-9, 9)), rng.randint(1, 6))
            for _ in range(25):
                other = changed(rng, ("way", row))
                if rng.random() < 0.3:
                    other = changed(rng, other)
                wanted = type(other) is tuple and len(other) == 2 and other[0] == "way" and is_way(web, other[1], row[0],
                                                                                                   row[-1])
                self.assertIs(shows_way(web, *row[0], *row[-1], other), wanted, other)
                seen[wanted] += 1
        self.assertGreater(min(seen.values()), 10)

    def test_changed_sets(self):
        rng = random.Random(174)
        seen = {True: 0, False: 0}
        for _ in range(120):
            web = sound_web(rng, least=1, most=3)
            (table, other), day = rng.choices(web.tables, k=2), rng.randint(-3, 3)
            other_day = rng.randint(-9, 12)
            found = hung(web, table, day)
            for _ in range(rng.randint(0, 2)):
                found = found | hung(web, rng.choice(web.tables), rng.randint(-9, 12))
            paper = ("apart", found.parts)
            for at in range(15):
                told = changed(rng, paper) if at else paper
                sets = records_in(web, told[1]) if type(told) is tuple and len(told) == 2 and told[0] == "apart" else None
                wanted = sets is not None and table in sets and day in sets[table] and is_closed(web, sets)
                wanted = wanted and not (other in sets and other_day in sets[other])
                self.assertIs(shows_way(web, table, day, other, other_day, told), wanted, told)
                seen[wanted] += 1
        self.assertGreater(min(seen.values()), 60)

    def test_sets_of_both_sides(self):
        rng = random.Random(175)
        seen = {True: 0, False: 0}
        for _ in range(150):
            web = sound_web(rng, least=1, most=3)
            (table, other), day = rng.choices(web.tables, k=2), rng.choice([0, 4, 10 ** 50])
            other_day = day + rng.randint(-9, 12)
            # All on which the second record does not hang.
            back = roots(web, other, other_day)
            sets = {name: ~back[name] for name in web}
            wanted = (table, day) not in back
            self.assertIs(shows_way(web, table, day, other, other_day, ("apart", Records(sets).parts)), wanted)
            seen[wanted] += 1
            if wanted:
                name, at = rng.choice(web.tables), day + rng.randint(-9, 20)
                less = Records({**sets, name: sets[name] - Days.of([at])})
                closed = less == Records(sets) or not any(source in less for source in made_from(web, (name, at)))
                self.assertIs(shows_way(web, table, day, other, other_day, ("apart", less.parts)),
                              closed and (table, day) in less)
            whole = Records({name: Days.always() for name in web})
            self.assertIs(shows_way(web, table, day, other, other_day, ("apart", whole.parts)), False)
        self.assertGreater(min(seen.values()), 30)

    def test_sets_that_are_closed_but_in_one_turn(self):
        web = Web(Cycle(2, 3), a=[], b=[Back("a", 3)], c=[Sofar("b")])
        for days in (Days.every(5, 1), Days.every(10, 1), Days.every(5, 0, 1, 2, 3) & Days.until(40),
                     Days.every(35, 2) - Days.until(10)):
            sets = {"a": days, "b": days + 3, "c": Days.every(1)}
            for at in range(5):
                block = (days + 3) & Days.every(5, at)
                for more in range(0, 5):
                    if at + more <= (1 if at < 2 else 4):
                        sets["c"] = sets["c"] | block + more
            one = (days.least if days.least is not None else days.after(0))
            asked = ("a", one, "a", one + 1) if one + 1 not in days else ("a", one, "a", 41)
            self.assertIs(shows_way(web, *asked, ("apart", Records(sets).parts)), True)
            self.assertTrue(is_closed(web, sets))
            for name in "bc":
                for day in [*sets[name].within(-3, 50)][:6]:
                    less = {**sets, name: sets[name] - Days.of([day])}
                    self.assertIs(shows_way(web, *asked, ("apart", Records(less).parts)), False)
                rest = sets[name].right_period
                less = {**sets, name: sets[name] - Days.every(7 * rest, *list(sets[name].within(100, 100 + rest))[:1])}
                if less[name] != sets[name]:
                    self.assertIs(shows_way(web, *asked, ("apart", Records(less).parts)), False)

    def test_ends_of_the_days_that_matter(self):
        # What is made from the last day of a set that goes on to the left lies a period and a tie ahead of its end.
        for tie, by in ((Ahead("g", 60), -60), (Ahead("g", 1), -1), (Back("g", 60), 60), (Back("g", 0), 0)):
            web = Web(Cycle(1), g=[], h=[tie])
            for period in (1, 2, 59, 60, 61, 997):
                left = Days.every(period, 0) & Days.until(0)
                right = Days.every(period, 0) & Days.from_day(0)
                for days in (left, right, Days.every(period, 0), left | right - Days.of([0])):
                    asked = ("g", days.before(1) if days.least is None else 0, "h", 30 * period + by + 1)
                    if asked[3] in days + by:
                        continue
                    told = {"g": days, "h": days + by}
                    self.assertIs(shows_way(web, *asked, ("apart", Records(told).parts)), True)
                    self.assertIs(shows_way(web, *asked, ("apart", Records({"g": days}).parts)), False)
                    many = min(20, 3000 // period)
                    for far in (many * period, -many * period):
                        # The sets lie together up to a day, or from a day on.
                        for less in (Days.from_day(far + by), Days.until(far + by)):
                            held = Records({"g": days, "h": (days + by) & less})
                            self.assertIs(shows_way(web, *asked, ("apart", held.parts)), held == Records(told))

    def test_both_kinds(self):
        web = Web(WEEKS, g=[], a=[Back("g", 0)], b=[Ahead("g", 2)])
        apart = ("apart", hung(web, "g", 3).parts)
        self.assertIs(shows_way(web, "g", 3, "a", 4, apart), True)
        for other, day in (("a", 3), ("b", 1), ("g", 3)):
            self.assertIs(shows_way(web, "g", 3, other, day, apart), False)
        self.assertIs(shows_way(web, "g", 3, "g", 3, ("way", (("g", 3),))), True)
        self.assertIs(shows_way(web, "g", 3, "g", 4, ("way", (("g", 3),))), False)
        self.assertIs(shows_way(web, "g", 3, "b", 1, ("way", (("g", 3), ("b", 1)))), True)
        self.assertIs(shows_way(web, "g", 3, "b", 1, ("way", (("g", 3), ("a", 3), ("b", 1)))), False)
        self.assertIs(shows_way(web, "g", 3, "b", 1, ("apart", (("g", 3), ("b", 1)))), False)
        self.assertIs(shows_way(web, "g", 3, "a", 4, ("way", apart[1])), False)
        # Records of days of more digits stand in a way, too.
        far = (("g", FAR), ("a", FAR))
        self.assertIs(shows_way(web, "g", FAR, "a", FAR, ("way", far)), True)
        chain = Web(WEEKS, g=[], a=[Back("g", 5)], b=[Ahead("a", 6)])
        row = (("g", FAR), ("a", FAR + 5), ("b", FAR - 1))
        self.assertEqual(way_paper(chain, *row[0], *row[-1]), ("way", row))
        self.assertIs(shows_way(chain, *row[0], *row[-1], ("way", row)), True)

    def test_any_values(self):
        web = Web(WEEKS, g=[], a=[Back("g", 0)])
        for value in ANY:
            for paper in (value, ("way", value), ("apart", value), ("way", (("g", 0), value)),
                          ("way", (("g", 0), value, ("a", 0))),
                          ("apart", (("g", value),)), ("way", (("g", value), ("a", 0)))):
                self.assertIs(shows_way(web, "g", 0, "a", 0, paper), same(paper, ("way", (("g", 0), ("a", 0)))))


class Sound(Checked):

    def test_papers_of_the_question(self):
        rng = random.Random(181)
        seen = {"ring": 0, "heights": 0}
        for _ in range(300):
            web = some_web(rng)
            paper = sound_paper(web)
            seen[paper[0]] += 1
            self.assertIs(shows_sound(web, paper), True)
            self.assertIs(shows_sound(paper=paper, web=web), True)
        self.assertGreater(min(seen.values()), 60)
        self.assertIs(shows_sound(Web(WEEKS), ("heights", ())), True)
        self.assertIs(shows_sound(Web(WEEKS), ("ring", ())), False)

    def test_changed_papers(self):
        rng = random.Random(182)
        seen = {("ring", True): 0, ("ring", False): 0, ("heights", True): 0, ("heights", False): 0}
        for _ in range(250):
            web = some_web(rng)
            paper = sound_paper(web)
            for _ in range(25):
                other = changed(rng, paper)
                if rng.random() < 0.3:
                    other = changed(rng, other)
                wanted = False
                if type(other) is tuple and len(other) == 2 and other[0] in ("ring", "heights"):
                    wanted = is_ring(web, other[1]) if other[0] == "ring" else are_heights(web, other[1])
                self.assertIs(shows_sound(web, other), wanted, other)
                seen[paper[0], wanted] += 1
        self.assertGreater(min(seen.values()), 30)

    def test_all_rings(self):
        rng = random.Random(183)
        many = 0
        for _ in range(150):
            web = some_web(rng)
            row = ring(web)
            if row is None:
                continue
            many += 1
            total = web.cycle.total
            turn = row[-1][1] - row[0][1]
            twice = row + tuple((name, day + turn) for name, day in row[1:])
            for at in range(len(row)):
                told = twice[at:at + len(row)]
                for by in (0, total, -7 * total, 10 ** 40 * total, 10 ** 80 * total, -(10 ** 70) * total):
                    moved = tuple((name, day + by) for name, day in told)
                    self.assertIs(shows_sound(web, ("ring", moved)), True)
                    self.assertIs(shows_sound(web, ("ring", moved[:-1])), is_ring(web, moved[:-1]))
                    self.assertIs(shows_sound(web, ("ring", [*moved])), False)
                wrong = tuple((name, day + 1) if total > 1 else (name, day) for name, day in told)
                self.assertIs(shows_sound(web, ("ring", wrong)), is_ring(web, wrong))
            self.assertIs(shows_sound(web, ("ring", twice)), True)
        self.assertGreater(many, 30)

    def test_rows_that_come_back(self):
        rng = random.Random(184)
        seen = {True: 0, False: 0}
        for _ in range(60):
            web = some_web(rng)
            for table, rest in numbers(web):
                for row in list(rows_from(web, (table, rest)))[:20]:
                    for source in made_from(web, row[-1]):
                        told = (*row, source)
                        self.assertIs(shows_sound(web, ("ring", told)), is_ring(web, told))
                        seen[is_ring(web, told)] += 1
        self.assertGreater(min(seen.values()), 100)

    def test_all_heights(self):
        rng = random.Random(185)
        many = edges = 0
        for _ in range(120):
            web = some_web(rng)
            if ring(web) is not None:
                continue
            found, total = heights(web), web.cycle.total
            wide = found.steps
            for _ in range(6):
                worths = {at: rng.choice([0, 0, 3, 50, 10 ** 70]) + found[at] for at in numbers(web)}
                by = rng.choice([0, -5, 10 ** 80, -(10 ** 90)])
                for _ in range(wide + 1):
                    for table, rest in numbers(web):
                        for name, at in made_from(web, (table, rest)):
                            worths[table, rest] = max(worths[table, rest], worths[name, at % total] + wide * (at - rest) + 1)
                rows = self.rows_of(web, {at: worth + by for at, worth in worths.items()})
                self.assertIs(shows_sound(web, ("heights", rows)), True)
                many += 1
                for table, rest in numbers(web):
                    for name, at in made_from(web, (table, rest)):
                        if (name, at % total) == (table, rest):
                            continue
                        # At this edge the worth is just too low; it can be so at others, too.
                        low = {**worths, (table, rest): worths[name, at % total] + wide * (at - rest)}
                        self.assertIs(shows_sound(web, ("heights", self.rows_of(web, low))), False)
                        edges += 1
        self.assertGreater(min(many, edges), 200)

    def rows_of(self, web, worths):
        """The rows of a paper of heights."""
        return tuple((table, tuple(worths[table, rest] for rest in range(web.cycle.total))) for table in web.tables)

    def test_papers_of_other_webs(self):
        rng = random.Random(186)
        webs = [some_web(rng) for _ in range(50)]
        seen = {True: 0, False: 0}
        for web in webs:
            for other in webs:
                paper = sound_paper(other)
                wanted = is_ring(web, paper[1]) if paper[0] == "ring" else are_heights(web, paper[1])
                self.assertIs(shows_sound(web, paper), wanted)
                seen[wanted] += 1
        self.assertGreater(min(seen.values()), 60)

    def test_any_values(self):
        web = Web(WEEKS, g=[], a=[Back("a", 0)])
        row = (0,) * 7
        for value in ANY:
            for paper in (value, ("ring", value), ("heights", value), ("heights", (("a", row), value)),
                          ("heights", (("a", value), ("g", row))), ("ring", (("a", 0), value)),
                          ("ring", (("a", 0), ("a", value)))):
                wanted = same(paper, ("ring", (("a", 0), ("a", 0))))
                self.assertIs(shows_sound(web, paper), wanted)
            self.assertIs(shows_sound(Web(WEEKS, g=[]), ("heights", (("g", (0, 0, 0, 0, 0, 0, value)),))), same(value, 0) or (
                type(value) is int))


class SettledPapers(Checked):

    def some_question(self, rng):
        """A web and what is asked of it."""
        web = sound_web(rng, ground=True)
        return web, some_rule(rng, web), some_keeping(rng, web), rng.choice(web.ground), rng.choice(DAYS), rng.choice([0, 1, 3,
                                                                                                                       8, 30])

    def test_papers_of_the_question(self):
        rng = random.Random(191)
        for _ in range(150):
            web, rule, keeping, table, day, late = self.some_question(rng)
            paper = settled_paper(web, rule, keeping, table, day, late)
            self.assertIs(shows_settled(web, rule, keeping, table, day, late, paper), True)
            self.assertIs(shows_settled(paper=paper, late=late, day=day, table=table, keeping=keeping, rule=rule, web=web),
                          True)

    def test_changed_papers(self):
        rng = random.Random(192)
        kept = 0
        for _ in range(120):
            web, rule, keeping, table, day, late = self.some_question(rng)
            paper = settled_paper(web, rule, keeping, table, day, late)
            for _ in range(40):
                other = changed(rng, paper)
                if rng.random() < 0.3:
                    other = changed(rng, other)
                kept += same(other, paper)
                self.assertIs(shows_settled(web, rule, keeping, table, day, late, other), same(other, paper))
        self.assertGreater(kept, 5)

    def test_records_in_other_sets(self):
        rng = random.Random(193)
        many = 0
        for _ in range(80):
            web, rule, keeping, table, day, late = self.some_question(rng)
            sets = [Records({name: Days.from_parts(told) for name, told in parts})
                    for parts in settled_paper(web, rule, keeping, table, day, late)[1:]]
            hangs = sets[0] | sets[1] | sets[2]
            for _ in range(10):
                name = rng.choice(hangs.tables)
                at = hangs[name].after(day + rng.randint(-15, 30))
                one = Records({name: Days.of([at])}) if at is not None and abs(at) <= FAR else Records({})
                if rng.random() < 0.3 and abs(day) < FAR - 99:
                    one = Records({name: hangs[name] & Days.from_day(day + rng.randint(-15, 30))})
                # These records are in one set, in another one, or in all.
                kind, other = rng.randrange(4), [held - one for held in sets]
                if kind < 3:
                    other[kind] = other[kind] | one
                elif rng.random() < 0.5:
                    other = [held | one for held in sets]
                paper = ("settled", *[held.parts for held in other])
                self.assertIs(shows_settled(web, rule, keeping, table, day, late, paper), other == sets)
                many += other != sets
        self.assertGreater(many, 250)

    def test_papers_of_other_questions(self):
        rng = random.Random(194)
        seen = {True: 0, False: 0}
        for _ in range(80):
            web, rule, keeping, table, day, late = self.some_question(rng)
            day = max(min(day, FAR - 100), 100 - FAR)
            paper = settled_paper(web, rule, keeping, table, day, late)
            for other in ((web, some_rule(rng, web), keeping, table, day, late),
                          (web, rule, some_keeping(rng, web), table, day, late),
                          (web, rule, keeping, table, day, late + 1), (web, rule, keeping, table, day, rng.randint(0, 40)),
                          (web, rule, keeping, table, day + rng.choice([1, -1, web.cycle.total]), late),
                          (web, rule, keeping, rng.choice(web.ground), day, late),
                          (web, Rule.of({name: "all" for name in web}), None, table, day, late)):
                wanted = same(settled_paper(*other), paper)
                self.assertIs(shows_settled(*other, paper), wanted)
                seen[wanted] += 1
        self.assertGreater(min(seen.values()), 80)

    def test_any_values(self):
        web = Web(WEEKS, g=[], a=[Back("g", 0)], b=[Same("a")])
        paper = settled_paper(web, Rule(), None, "g", 0, 1)
        for value in ANY:
            for other in (value, ("settled", value, value, value), ("settled", *paper[1:3], value),
                          ("settled", value, *paper[2:]),
                          ("settled", paper[1], value, paper[3]), (value, *paper[1:]),
                          ("settled", (("g", value),), *paper[2:])):
                self.assertIs(shows_settled(web, Rule(), None, "g", 0, 1, other), same(other, paper))

    def test_records_in_sets_besides(self):
        rng = random.Random(195)
        for _ in range(80):
            web, rule, keeping, table, day, late = self.some_question(rng)
            web = web.put("leaf", [Back("g", 0)]) if len(web) < 6 else web
            sets = [Records({name: Days.from_parts(told) for name, told in parts})
                    for parts in settled_paper(web, rule, keeping, table, day, late)[1:]]
            for _ in range(12):
                name, at, kind = rng.choice(web.tables), day + rng.randint(-5, 20), rng.randrange(3)
                if abs(at) <= FAR:
                    more = [*sets]
                    more[kind] = more[kind] | Records({name: Days.of([at])})
                    paper = ("settled", *[held.parts for held in more])
                    self.assertIs(shows_settled(web, rule, keeping, table, day, late, paper), more == sets)

    def test_up_to_the_night_of_the_correction(self):
        # r is made again for ever, x is stale up to that night: a paper that tells so for ever only repeats early.
        web = Web(WEEKS, g=[], r=[Back("r", 1), Back("g", 0)], x=[Back("r", 0)])
        for late in (0, 3, 30, 100, 1000):
            for day in (0, 5, 10 ** 50):
                on, up = Days.from_day(day), Days.until(day + late)
                told = [Records({"g": Days.of([day]), "r": on}), Records({}), Records({})]
                for days, wanted in ((on & up, True), (on, False), (Days.none(), False),
                                     (on & Days.until(day + late + 1), False)):
                    right = told[0] | Records({"x": on - days})
                    paper = ("settled", right.parts, Records({"x": days}).parts, ())
                    self.assertIs(shows_settled(web, Rule(r="all"), None, "g", day, late, paper), wanted)

    def test_sets_that_go_on_to_the_left(self):
        web = Web(WEEKS, g=[], a=[Back("a", 7), Back("g", 0)])
        for day in (0, 7, -7 * 10 ** 40):
            right = Days.every(7, 0) & Days.from_day(day)
            for days, wanted in ((right, True), (Days.every(7, 0), False), (right | Days.every(7, 1), False),
                                 (right | Days.every(14, 7), False)):
                sets = Records({"g": Days.of([day]), "a": days}).parts
                self.assertIs(shows_settled(web, Rule(a="all"), None, "g", day, 3, ("settled", sets, (), ())), wanted)
            left = Records({"a": Days.every(7, 0) - right}).parts
            sets = Records({"g": Days.of([day]), "a": right}).parts
            for told in (("settled", sets, left, ()), ("settled", sets, (), left)):
                self.assertIs(shows_settled(web, Rule(a="all"), None, "g", day, 3, told), False)

    def test_right_goes_on_from_the_record(self):
        web = Web(WEEKS, g=[], a=[Back("g", 0)])
        for days in (Days.from_day(0), Days.every(7, 0), Days.until(0), Days.of([0, 7]), Days.of([-1, 0])):
            for day in (0, 7, 7 * 10 ** 50):
                sets = Records({"g": days, "a": days}).parts
                self.assertIs(shows_settled(web, Rule(a=3), None, "g", day, 0, ("settled", sets, (), ())), False)
