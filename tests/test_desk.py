"""The desk: its lines, their answers, and what they change."""
import random

from remadedays.cycles import Cycle
from remadedays.desk import Desk
from remadedays.errors import BadDay, BadLine, BadNumber, DayError, InUse, NotGround, NoTable, TooMany, TooShort, Unsound
from remadedays.rules import Keeping, Rule
from remadedays.ties import Ahead, Back, Last, Same, Sofar, Whole
from remadedays.webs import Web
from deskmodel import Told
from hungmodel import sound_web
from nightmodel import needed_by_looking
from samples import FAR, HOLDERS, NESTED, ODD, TOO_LONG, WEEKS, Checked
from textmodel import changed_words, wrong_in_line

ASKS = ("show", "hung", "roots", "sound", "settled", "state", "stands", "least", "lots")


def told(desk):
    """All that a desk has, and how many lines it can take back."""
    return (desk.web, desk.rule, desk.keeping, len(desk))


def some_line(rng, web):
    """A drawn line, of tables of the web for the most part."""
    names = [*web.tables, *web.tables, *web.tables, rng.choice("abcg"), "self"]
    name, other = rng.choice(names), rng.choice(names)
    day, late = rng.choice([0, 3, -5, 12, 10 ** 40, -FAR, FAR]), rng.choice([0, 0, 1, 2, 5, 40, 1000, 1001, FAR])
    word = rng.choice(["table", "table", "table", "rule", "rule", "keep", "undo", "drop", "cycle", *ASKS])
    if word == "cycle":
        return "cycle " + " ".join(map(str, rng.choice([(7,), (2, 3), (1, 4), (3, 1), (60, 1), (1,) * 13, (5, 2)])))
    if word == "table":
        ties = [rng.choice([Back(one, rng.randint(0, 9)), Sofar(one), Whole(one), Last(one), Same(one), Back(one, 1),
                            Ahead(one, rng.randint(1, 3))])
                for one in rng.choices(names, k=rng.choice([0, 0, 1, 1, 2, 3]))]
        return "".join([f"table {name}", *[f" from {tie}" for tie in ties]])
    if word in ("rule", "keep"):
        return f"{word} {name} {rng.choice([0, 1, 2, 5, 30, 4000, 'all', 'all'])}"
    if word in ("drop",):
        return f"{word} {name}"
    if word in ("hung", "roots"):
        return f"{word} {name} {day}"
    if word == "settled":
        return f"{word} {name} {day} {late}"
    if word == "state":
        return f"{word} {name} {day} {late} {other} {day + rng.randint(-3, 9) if abs(day) < FAR else day}"
    if word == "least":
        return f"{word} {rng.choice([0, 1, 7, 3999, 4000, 'all'])}"
    if word == "lots":
        return f"{word} {name} {day} {rng.choice([0, 3, 100, 10 ** 30])} {rng.choice([0, 1, 2, 5])}"
    return word


class Lines(Checked):

    def test_drawn_lines(self):
        rng = random.Random(211)
        answers, errors = {}, {}
        for _ in range(60):
            desk, model = Desk(), Told()
            web = sound_web(rng, ground=True)
            lines = ["cycle " + str(web.cycle), *[f"table {name}" for name in web],
                     *["".join([f"table {name}", *[f" from {tie}" for tie in web[name]]]) for name in web]]
            lines += [f"rule {name} {rng.choice([0, 2, 9, 'all'])}" for name in web]
            if rng.random() < 0.5:
                lines += [f"keep {name} {more + rng.choice([0, 3, 9])}" for name, more in needed_by_looking(web).items()]
            for at in range(len(lines) + 60):
                line = lines[at] if at < len(lines) else some_line(rng, model.past[-1][0])
                before = told(desk)
                ask = rng.choice([desk.ask, desk, desk.run])
                try:
                    wanted = model.ask(line)
                except DayError as wrong:
                    self.refuses(type(wrong), vars(wrong), ask, line)
                    self.assertEqual(told(desk), before)
                    errors[line.split(" ")[0], type(wrong)] = True
                    continue
                found = ask(line)
                self.assertEqual(found[0] if ask == desk.run else found, wanted)
                self.assertNotIn("\n", wanted)
                self.assertEqual(told(desk), (*model.past[-1], len(model.past) - 1))
                if line.split(" ")[0] in ASKS:
                    self.assertEqual(told(desk), before)
                    answers.setdefault(line.split(" ")[0], set()).add(wanted)
            while len(model.past) > 1:
                self.assertEqual([desk.ask("undo"), model.ask("undo")], ["ok", "ok"])
                self.assertEqual(told(desk), (*model.past[-1], len(model.past) - 1))
            self.assertEqual([desk.ask("undo"), told(desk)], ["nothing", (Web(WEEKS), Rule(), Keeping(), 0)])
        self.assertEqual(set(answers), set(ASKS))
        for word in ASKS:
            self.assertGreater(len(answers[word]), 2, word)
        self.assertGreater(len(errors), 20)

    def test_wrong_lines(self):
        rng = random.Random(212)
        desk = Desk()
        desk.run("table g", "table a from back 0 g from back 1 a", "rule a 2", "keep g 30")
        seen = {True: 0, False: 0}
        for _ in range(6000):
            line = some_line(rng, desk.web)
            line = " ".join(changed_words(rng, line.split(" ")))
            wrong = wrong_in_line(line)
            seen[wrong is None] += 1
            if wrong is not None:
                before = told(desk)
                self.refuses(BadLine, {"word": wrong}, rng.choice([desk.ask, desk, desk.run]), line)
                self.assertEqual(told(desk), before)
        self.assertGreater(min(seen.values()), 500)

    def test_single_lines(self):
        desk = Desk()
        desk.run("table g", "table a from back 0 g")
        before = told(desk)
        for value in [*ODD, *HOLDERS, *NESTED, *TOO_LONG, 0, 7]:
            self.refuses(BadLine, {"word": 0}, desk.ask, value)
            self.refuses(BadLine, {"word": 0}, desk, value)
            self.refuses(BadLine, {"word": 0}, desk.run, "rule a 3", value)
        for line, word in (("", 0), (" ", 0), ("\n", 0), ("show\n", 0), (" show", 0), ("show ", 1), ("show a", 1),
                           ("undo 1", 1), ("undo undo", 1),
                           ("sound a", 1), ("stands 1", 1), ("Show", 0), ("from back 0 g", 0), ("keeps a 1", 0), ("a", 0),
                           ("all", 0), ("none", 0),
                           ("cycle", 1), ("cycle 7 ", 2), ("cycle 0", 1), ("cycle 7 61", 2), ("cycle 7\n", 1), ("table", 1),
                           ("table G", 1),
                           ("table b from", 3), ("table b from back 61 g", 4), ("table b back 0 g", 2),
                           ("table b from same g\n", 4),
                           ("drop", 1), ("drop a g", 2), ("drop abcdefghi", 1), ("rule", 1), ("rule a", 2), ("rule a 4001", 2),
                           ("rule a -1", 2),
                           ("rule a 01", 2), ("rule a none", 2), ("rule a 4000 b", 3), ("rule a 1 ", 3), ("keep a", 2),
                           ("keep 1 a", 1), ("keep a all all", 3),
                           ("hung", 1), ("hung g", 2), ("hung g +1", 2), ("hung g -0", 2), ("hung g 1 1", 3),
                           ("hung g 1" + "0" * 60, 2),
                           ("hung g -1" + "0" * 60, 2), ("hung g 3\n", 2), ("roots g x", 2), ("settled g 0", 3),
                           ("settled g 0 -1", 3),
                           ("settled g 0 1" + "0" * 60, 3), ("settled g 0 1 1", 4), ("state g 0 0", 4), ("state g 0 0 a", 5),
                           ("state g 0 0 1 a", 4),
                           ("state g 0 0 a 0 0", 6), ("least", 1), ("least -1", 1), ("least none", 1), ("least 1 2", 2),
                           ("least all all", 2),
                           ("lots g 0 1", 4), ("lots g 0 1 -2", 4), ("lots g 0 x 2", 3), ("lots g 0 1 2 3", 5),
                           ("settled g  0", 2)):
            self.assertEqual(wrong_in_line(line), word)
            self.refuses(BadLine, {"word": word}, desk.ask, line)
            self.refuses(BadLine, {"word": word}, desk, line=line)
        self.assertEqual(told(desk), before)

    def test_what_is_called_refuses(self):
        desk = Desk()
        desk.run("table g", "table a from back 2 g", "keep g 2", "rule a 3")
        before = told(desk)
        for line, kind, attributes in (
                ("hung b 0", NoTable, {"table": "b"}), ("roots b 0", NoTable, {"table": "b"}),
                                       ("drop b", NoTable, {"table": "b"}),
                ("drop g", InUse, {"table": "g"}), ("table b from last c", NoTable, {"table": "c"}),
                                       ("table b" + " from same g" * 7, TooMany, {"what": "ties", "most": 6}),
                ("cycle 60 1", TooMany, {"what": "days", "most": 60}), ("cycle" + " 1" * 13, TooMany,
                                                                        {"what": "blocks", "most": 12}),
                ("settled a 0 0", NotGround, {"table": "a"}), ("settled g 0 1001", BadNumber, {"value": 1001}),
                                       ("settled b 0 1001", NoTable, {"table": "b"}),
                ("state g 0 1001 b 0", BadNumber, {"value": 1001}), ("state g 0 0 b 0", NoTable, {"table": "b"}),
                                       ("state a 0 0 b 0", NotGround, {"table": "a"}),
                ("least 4000", BadNumber, {"value": 4000}), ("lots g 0 0 0", BadNumber, {"value": 0}),
                                       ("lots a 0 0 0", NotGround, {"table": "a"})):
            self.refuses(kind, attributes, desk.ask, line)
            self.refuses(kind, attributes, desk.run, "rule g 1", "undo", "keep g 7", line, "show")
            self.assertEqual(told(desk), before)
        desk.ask("keep g 1")
        for line in ("settled g 0 0", "state g 0 0 b 0", "stands"):
            self.refuses(TooShort, {"table": "g"}, desk.ask, line)
        desk.ask("table g from ahead 2 a")
        for line in ("hung g 0", "roots a 0", "stands", "least 0", "least all"):
            self.refuses(Unsound, {"table": "a"}, desk.ask, line)
        self.refuses(NotGround, {"table": "g"}, desk.ask, "settled g 0 0")
        self.assertEqual(desk.run("sound", "undo", "undo", "sound"), ["ring a 0 g -2 a 0", "ok", "ok", "sound"])
        self.assertEqual(told(desk), before)
        self.refuses(BadDay, {"value": None}, desk.web.sources, "g", None)


class Words(Checked):

    def test_at_first(self):
        desk = Desk()
        self.assertEqual(told(desk), (Web(Cycle(7)), Rule(), Keeping(), 0))
        self.assertEqual(desk.run(), [])
        self.assertEqual(desk.run("show", "sound", "undo", "stands", "least all", "least 5"),
                         ["cycle 7", "sound", "nothing", "all", "none", "none"])
        for name in ("web", "rule", "keeping"):
            self.assertIsInstance(vars(Desk)[name], property)
            with self.assertRaises(AttributeError):
                setattr(desk, name, None)
        self.assertEqual(told(desk), told(Desk()))

    def test_each_line(self):
        desk = Desk()
        self.assertEqual(desk.run("table s", "table t from back 1 t from back 0 s", "table w from sofar s", "rule t 2",
                                  "rule w all", "keep s 9"),
                         ["ok"] * 6)
        self.assertEqual(len(desk), 6)
        for line, answer in (("show", "cycle 7 ; table s ; table t from back 1 t from back 0 s ; table w from sofar s"),
                             ("hung s 4", "s days 4 ; t right 1 0 from 4 ; w days 4 5 6"),
                             ("roots w 8", "s days 7 8 ; w days 8"), ("hung w 8", "w days 8"), ("sound", "sound"),
                             ("settled s 5 1", "right s days 5 ; t right 1 0 from 5 ; w days 5 6 stale none half none"),
                             ("settled s 5 2", "right s days 5 ; w days 5 6 stale t right 1 0 from 5 half none"),
                             ("state s 5 2 t 5", "stale"), ("state s 5 2 w 5", "right"), ("state s 5 2 w 7", "clear"),
                             ("state s 5 2 t 4", "clear"),
                             ("stands", "1"), ("least 4", "t 5 w 5"), ("least all", "t all w all"), ("least 0", "t 1 w 1"),
                             ("lots s 0 10 1", "never"), ("lots s 0 10 2", "17"), ("lots s 0 0 1000", "1"),
                             ("hung s " + "9" * 60, f"s days {FAR} ; t right 1 0 from {FAR} ; w days " + " ".join(
                                 str(day) for day in range(FAR, WEEKS.last(FAR) + 1)))):
            self.assertEqual(desk.ask(line), answer, line)
            self.assertEqual(desk(line), answer)
            self.assertEqual(desk.ask(line=line), answer)
            self.assertEqual(len(desk), 6)
        self.assertEqual([desk.web["w"], desk.rule, desk.keeping], [(Sofar("s"),), Rule(t=2, w="all"), Keeping(s=9)])
        self.assertEqual(desk.run("drop w", "cycle 2 3", "table s", "rule t all", "keep s all"), ["ok"] * 5)
        self.assertEqual([desk.web, desk.rule, desk.keeping, len(desk)],
                         [Web(Cycle(2, 3), s=[], t=[Back("t", 1), Back("s", 0)]), Rule(t="all", w="all"), Keeping(), 11])
        self.assertEqual(desk.run("stands", "lots s 0 3 1"), ["all", "never"])

    def test_half_records(self):
        desk = Desk()
        desk.run("table s", "table a from back 0 s", "table b from back 0 s from back 0 a", "rule b 4")
        self.assertEqual(desk.run("settled s 3 1", "state s 3 1 b 3", "stands"),
                         ["right s days 3 stale a days 3 half b days 3", "half", "-1"])
        self.assertEqual(desk.run("table s from ahead 1 b", "sound", "table s from back 3 b from ahead 9 a", "sound"),
                         ["ok", "ring b 0 s 0 b 1 s 1 b 2 s 2 b 3 s 3 b 4 s 4 b 5 s 5 b 6 s 6 b 7", "ok",
                          "ring a 0 s 0 b -3 s -3 b -6 s -6 b -9 s -9 a 0"])

    def test_names_that_are_words(self):
        desk = Desk()
        desk.run("table all", "table undo from same all", "table from from last undo",
                 "rule from all", "keep all all", "rule all 3", "table cycle", "table self from sofar cycle")
        self.assertEqual(desk.ask("show"),
                         "cycle 7 ; table all ; table cycle ; table from from last undo ; table self from sofar cycle ; "
                                           "table undo from same all")
        self.assertEqual(desk.run("hung all 6", "drop self", "drop cycle", "undo", "undo", "undo"),
                         ["all days 6 ; from days 14 15 16 17 18 19 20 ; undo days 13", "ok", "ok", "ok", "ok", "ok"])

    def test_undo(self):
        desk = Desk()
        lines = ["table g", "cycle 2 3", "table a from last g", "rule a 3", "keep g 9", "rule a 3", "table a from last g",
                 "cycle 2 3", "drop a", "rule a all"]
        states = [told(desk)]
        for line in lines:
            self.assertEqual(desk.ask(line), "ok")
            states.append(told(desk))
        self.assertEqual(len(desk), len(lines))
        for state in states[-2::-1]:
            self.assertEqual([desk.ask("undo"), told(desk)], ["ok", state])
        for _ in range(3):
            self.assertEqual([desk.ask("undo"), told(desk)], ["nothing", states[0]])
        # What was taken back does not come back.
        desk.run("table g", "rule g 1", "undo", "keep g 2", "show")
        self.assertEqual([desk.rule, desk.keeping, len(desk)], [Rule(), Keeping(g=2), 2])
        self.assertEqual(desk.run("undo", "undo", "undo"), ["ok", "ok", "nothing"])

    def test_run_that_raises(self):
        desk = Desk()
        desk.run("table g", "rule g 1")
        before = told(desk)
        for lines in (("undo", "undo", "undo", "drop g"), ("rule g 2", "keep g 3", "show", 5),
                      ("table h", "drop h", "undo", "hung g"),
                      ("undo", "undo", "table a", "x"), ("drop g", "hung g 0")):
            with self.assertRaises(DayError):
                desk.run(*lines)
            self.assertEqual(told(desk), before)
        self.assertEqual(desk.run("undo", "undo", "undo"), ["ok", "ok", "nothing"])
        found = desk.run("table g", "show")
        found.append("mine")
        self.assertEqual(desk.run("show"), ["cycle 7 ; table g"])

    def test_side_by_side(self):
        one, other = Desk(), Desk()
        one.run("table a", "rule a 3")
        self.assertEqual(told(other), told(Desk()))
        other.run("table b", "undo")
        self.assertEqual([len(one), one.ask("show")], [2, "cycle 7 ; table a"])

    def test_hundreds_of_lines(self):
        desk = Desk()
        desk.ask("table g")
        for at in range(700):
            self.assertEqual(desk.ask(f"rule g {at}"), "ok")
        self.assertEqual([len(desk), desk.rule], [701, Rule(g=699)])
        self.assertEqual(desk.run(*[f"keep g {at}" for at in range(900)]), ["ok"] * 900)
        self.assertEqual(desk.run(*["undo"] * 1000), ["ok"] * 1000)
        self.assertEqual([len(desk), desk.rule, desk.keeping], [601, Rule(g=599), Keeping()])
        self.assertEqual(desk.run(*["undo"] * 602)[-2:], ["ok", "nothing"])
