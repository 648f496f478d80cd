"""Texts of webs, and their reader."""
import random

from remadedays.cycles import Cycle
from remadedays.errors import BadText, DayError, NoTable, TooMany
from remadedays.reader import read_web
from remadedays.texts import web_text
from remadedays.ties import Ahead, Back, Last, Same, Sofar, Whole
from remadedays.webs import Web
from samples import HOLDERS, LONG, NESTED, ODD, TOO_LONG, WEEKS, Checked
from textmodel import changed_text, ties_of, wrong_in_web
from webmodel import some_web

# Names that are words of the texts, too.
WORDY = ["all", "back", "cycle", "days", "from", "last", "none", "same", "sofar", "table", "until", "whole", "a", "zzzzzzzz"]


def wordy_web(rng):
    """A drawn web with names that are words of the texts."""
    names = rng.sample(WORDY, rng.randint(0, 6))
    kinds = [lambda name: Back(name, rng.choice([0, 1, 9, 10, 60])), lambda name: Ahead(name, rng.choice([1, 59, 60])), Sofar,
             Whole, Last, Same]
    tables = {name: [rng.choice(kinds)(rng.choice(names)) for _ in range(rng.randint(0, 6))] for name in names}
    lengths = rng.choice([(7,), (2, 3), (1,) * 12, (10, 1, 9), (7, 8), (10,)])
    return Web.of(Cycle(*lengths), tables) if rng.random() < 0.9 else some_web(rng)


def made_of(text):
    """The web of a text that can be read, its cycle first; or the error that is raised."""
    rows = [row.split(" ") for row in text.split("\n")]
    try:
        cycle = Cycle(*[int(word) for word in rows[0][1:]])
        return Web.of(cycle, {row[1]: ties_of(row[2:]) for row in rows[1:]})
    except DayError as wrong:
        return wrong


class Texts(Checked):

    def test_told(self):
        self.assertEqual(web_text(Web(LONG)), "cycle 2 3")
        self.assertEqual(web_text(Web(WEEKS, b=[], a=(Back("b", 0), Whole("a"), Back("b", 0)))),
                         "cycle 7\ntable a from back 0 b from whole a from back 0 b\ntable b")
        self.assertEqual(web_text(web=Web.of(Cycle(10), {"table": [Ahead("from", 60), Last("from")],
                                                         "from": [Same("table"), Sofar("from")]})),
                         "cycle 10\ntable from from same table from sofar from\ntable table from ahead 60 from from last from")

    def test_there_and_back(self):
        rng = random.Random(201)
        for _ in range(500):
            web = wordy_web(rng)
            text = web_text(web)
            self.assertEqual(text.split("\n")[0], f"cycle {web.cycle}")
            self.assertEqual([row.split(" ")[1] for row in text.split("\n")[1:]], list(web.tables))
            self.assertEqual(text,
                             "\n".join([f"cycle {web.cycle}"] + ["".join([f"table {name}"] + [f" from {tie}" for tie in web[name]])
                                                                        for name in sorted(web.tables)]))
            found = read_web(text)
            self.assertIs(type(found), Web)
            self.assertEqual(found, web)
            self.assertEqual(web_text(read_web(text=text)), text)

    def test_equal_webs_have_equal_texts(self):
        one = Web(WEEKS, a=[Back("b", 1), Sofar("b")], b=[])
        self.assertEqual(web_text(one), web_text(Web.of(Cycle(7), {"b": (), "a": (Back("b", 1), Sofar("b"))})))
        self.assertNotEqual(web_text(one), web_text(one.put("a", [Sofar("b"), Back("b", 1)])))


class Changed(Checked):

    def test_changed_texts(self):
        rng = random.Random(202)
        seen = {"wrong": 0, "web": 0, "error": 0}
        for _ in range(9000):
            text = changed_text(rng, web_text(wordy_web(rng)))
            if rng.random() < 0.3:
                text = changed_text(rng, text)
            wrong = wrong_in_web(text)
            if wrong is not None:
                seen["wrong"] += 1
                self.refuses(BadText, {"line": wrong[0], "word": wrong[1]}, read_web, text)
                continue
            wanted = made_of(text)
            if isinstance(wanted, Web):
                seen["web"] += 1
                self.assertEqual(read_web(text), wanted)
            else:
                seen["error"] += 1
                self.refuses(type(wanted), vars(wanted), read_web, text)
        self.assertGreater(min(seen.values()), 100)

    def test_no_strings(self):
        for value in [*ODD, *HOLDERS, *NESTED, *TOO_LONG, 0, 7]:
            if not isinstance(value, str):
                self.refuses(BadText, {"line": 0, "word": 0}, read_web, value)
        self.refuses(BadText, {"line": 0, "word": 0}, read_web, text=["cycle 7"])

    def test_single_words(self):
        for text, line, word in (("", 0, 0), ("\n", 0, 0), (" ", 0, 0), ("cycle", 0, 1), ("cycle ", 0, 1), ("cycle 0", 0, 1),
                                 ("cycle 61", 0, 1),
                                 ("cycle 07", 0, 1), ("cycle +7", 0, 1), ("cycle 7 ", 0, 2), ("cycle  7", 0, 1),
                                 ("cycle 7 x", 0, 2),
                                 ("Cycle 7", 0, 0), ("cycle 7\n", 1, 0), ("cycle 7\n\n", 1, 0), ("cycle 7\ntable", 1, 1),
                                 ("cycle 7\ntable a\n", 2, 0), ("cycle 7\ntable a\ntable a", 2, 1),
                                 ("cycle 7\ntable b\ntable a", 2, 1),
                                 ("cycle 7\ntable A", 1, 1), ("cycle 7\ntable abcdefghi", 1, 1), ("cycle 7\ntable a ", 1, 2),
                                 ("cycle 7\ntable a from", 1, 3), ("cycle 7\ntable a from back", 1, 4),
                                 ("cycle 7\ntable a from back 0", 1, 5),
                                 ("cycle 7\ntable a from back 61 a", 1, 4), ("cycle 7\ntable a from ahead 0 a", 1, 4),
                                 ("cycle 7\ntable a from back -1 a", 1, 4), ("cycle 7\ntable a from back a", 1, 4),
                                 ("cycle 7\ntable a from sofar 1 a", 1, 4), ("cycle 7\ntable a from sofar a a", 1, 5),
                                 ("cycle 7\ntable a sofar a", 1, 2), ("cycle 7\ntable a from far a", 1, 3),
                                 ("cycle 7\ntable a\ncycle 7", 2, 0),
                                 ("cycle 7\n table a", 1, 0), ("table a", 0, 0), ("cycle 7\tx", 0, 1), ("cycle \u0667", 0, 1)):
            self.refuses(BadText, {"line": line, "word": word}, read_web, text)

    def test_what_is_made_of_the_words(self):
        # All words come first, then the cycle, then the web.
        wide = "cycle" + " 5" * 13
        self.refuses(TooMany, {"what": "blocks", "most": 12}, read_web, wide + "\ntable a from back 0 b")
        self.refuses(BadText, {"line": 1, "word": 5}, read_web, wide + "\ntable a from back 0 B")
        self.refuses(TooMany, {"what": "days", "most": 60}, read_web, "cycle 60 1\ntable a from back 0 b")
        self.refuses(NoTable, {"table": "b"}, read_web, "cycle 60\ntable a from back 0 b from back 0 c")
        seven = "".join(f"\ntable {name}" for name in "abcdefg")
        self.refuses(TooMany, {"what": "tables", "most": 6}, read_web, "cycle 7" + seven)
        self.refuses(BadText, {"line": 8, "word": 1}, read_web, "cycle 7" + seven + "\ntable b")
        self.refuses(TooMany, {"what": "ties", "most": 6}, read_web, "cycle 7\ntable a" + " from same b" * 7)
        self.refuses(TooMany, {"what": "edges", "most": 2000}, read_web, "cycle 60\ntable a from whole a")
