"""Webs: tables, ties, errors in their order, sources and users."""
import operator
import random
import unittest

from remadedays.cycles import Cycle
from remadedays.days import Days
from remadedays.errors import BadCycle, BadDay, BadName, BadTable, BadTies, InUse, NoTable, TooMany, Unlike
from remadedays.ties import Ahead, Back, Last, Same, Sofar, Whole
from remadedays.webs import Web
from samples import FAR, HOLDERS, LONG, NAMES, NOT_DAYS, NOT_NAMES, ODD, TOO_LONG, WEEKS, Checked
from webmodel import made_from, some_web

SIX = {name: [] for name in "abcdef"}


def hashable(values):
    """Those of some values that can be keys."""
    return [value for value in values if type(value) in (int, str, bool, type(None)) or value in ((), ("a",))]


class Made(Checked):

    def test_by_keyword_and_by_table(self):
        ties = {"total": [Back("total", 1), Back("sales", 0)], "sales": (), "week": (Sofar("sales"),)}
        for web in (Web(WEEKS, **ties), Web(cycle=WEEKS, **ties), Web.of(WEEKS, ties), Web.of(tables=ties, cycle=WEEKS),
                    Web.of(WEEKS, dict(reversed(ties.items()))), Web(WEEKS, **dict(sorted(ties.items())))):
            self.assertEqual(web.cycle, WEEKS)
            self.assertEqual(web.tables, ("sales", "total", "week"))
            self.assertEqual(web.ground, ("sales",))
            self.assertEqual(web["total"], (Back("total", 1), Back("sales", 0)))
            self.assertEqual(web["sales"], ())
            self.assertEqual(web["week"], (Sofar("sales"),))
            self.assertEqual(list(web), ["sales", "total", "week"])
            self.assertEqual(len(web), 3)

    def test_names_that_are_words(self):
        web = Web.of(LONG, {name: [] for name in NAMES[:4]} | {"self": [Back("cycle", 2)], "cycle": [Last("self")]})
        self.assertEqual(web.tables, ("a", "back", "cycle", "from", "self", "z"))
        self.assertEqual(web.ground, ("a", "back", "from", "z"))
        self.assertEqual(web["self"], (Back("cycle", 2),))
        self.assertEqual(web["cycle"], (Last("self"),))
        self.assertEqual(Web.of(WEEKS, {"cls": [], "tables": [Back("cls", 1)]})["tables"], (Back("cls", 1),))
        self.assertEqual(Web(WEEKS, tables=[], of=[], cls=()).tables, ("cls", "of", "tables"))

    def test_no_tables(self):
        for web in (Web(LONG), Web.of(LONG, {})):
            self.assertEqual([web.tables, web.ground, len(web), list(web), web.cycle], [(), (), 0, [], LONG])

    def test_later_changes(self):
        ties, tables = [Back("a", 1)], {"b": []}
        tables["a"] = ties
        for web in (Web.of(WEEKS, tables), Web(WEEKS, **tables)):
            ties.append(None)
            ties[0] = Sofar("z")
            self.assertEqual(web["a"], (Back("a", 1),))
            ties[:] = [Back("a", 1)]
        web = Web.of(WEEKS, tables)
        del tables["b"]
        tables["c"] = 5
        self.assertEqual(web.tables, ("a", "b"))

    def test_properties_are_properties(self):
        for name in ("cycle", "tables", "ground"):
            self.assertIsInstance(vars(Web)[name], property)
            with self.assertRaises(AttributeError):
                setattr(Web(WEEKS), name, 5)

    def test_asked_for_tables(self):
        web = Web(WEEKS, a=[], b=[Back("a", 0)])
        for value in [*NOT_NAMES, *HOLDERS, *NOT_DAYS, "c", "ab", 0]:
            if value not in ("a", "b"):
                self.assertIs(value in web, False)
                self.refuses(NoTable, {"table": value}, operator.getitem, web, value)
        self.assertIs("a" in web, True)
        self.assertIs("b" in web, True)

    def test_equal(self):
        one = Web(WEEKS, a=[], b=[Back("a", 0), Sofar("a")])
        self.assertIs(one == Web(WEEKS, b=(Back("a", 0), Sofar("a")), a=()), True)
        self.assertIs(one != Web(WEEKS, b=(Back("a", 0), Sofar("a")), a=()), False)
        others = [Web(LONG, a=[], b=[Back("a", 0), Sofar("a")]), Web(WEEKS, a=[], b=[Sofar("a"), Back("a", 0)]),
                  Web(WEEKS, a=[], b=[Back("a", 0)]), Web(WEEKS, a=[], c=[Back("a", 0), Sofar("a")]), Web(WEEKS, a=[]),
                  Web(WEEKS, a=[], b=[Back("a", 1), Sofar("a")]), Web(WEEKS, a=[], b=[Back("a", 0), Sofar("a")], c=[])]
        for other in [*others, *NOT_DAYS, WEEKS, {"a": (), "b": ()}]:
            if other is not one:
                self.assertIs(one == other, False)
                self.assertIs(other == one, False)


class Refused(Checked):

    def test_no_cycle(self):
        for value in [None, 7, "7", (7,), [7], *NOT_DAYS]:
            if not isinstance(value, Cycle):
                self.refuses(BadCycle, {"at": None}, Web, value)
                self.refuses(BadCycle, {"at": None}, Web, value, A=5)
                self.refuses(BadCycle, {"at": None}, Web.of, value, {})
                self.refuses(BadCycle, {"at": None}, Web.of, value, None)

    def test_no_dict(self):
        for value in [*ODD, *TOO_LONG, 5, (), [], ("a",), ["a"], "a", [("a", [])]]:
            self.refuses(BadTable, {"value": value}, Web.of, WEEKS, value)

    def test_first_wrong_name(self):
        for value in hashable(NOT_NAMES):
            self.refuses(BadName, {"value": value}, Web.of, WEEKS, {value: []})
            self.refuses(BadName, {"value": value}, Web.of, WEEKS, {"b": 7, value: None, "A": [], "a": []})
            self.refuses(BadName, {"value": "A"}, Web.of, WEEKS, {"b": 7, "A": [], value: None, "a": []})
        self.refuses(BadName, {"value": "Z"}, Web, WEEKS, b=[], Z=[], A=[])
        self.refuses(BadName, {"value": "_ties"}, Web, WEEKS, _ties={})

    def test_first_wrong_ties(self):
        class Other:
            """No tie."""

        for value in [*ODD, *TOO_LONG, 5, {}, {"a": 1}, [None], (Back("a", 1), "back 1 a"), [[Back("a", 1)]], (Back,), [Other()],
                      Back("a", 1), "a"]:
            self.refuses(BadTies, {"table": "a"}, Web, WEEKS, a=value)
            self.refuses(BadTies, {"table": "b"}, Web.of, WEEKS, {"c": value, "b": value, "a": [Back("x", 1)] * 9})
        self.refuses(BadTies, {"table": "g"}, Web, WEEKS, g=None, **SIX)

    def test_many_tables(self):
        self.assertEqual(len(Web(WEEKS, **SIX)), 6)
        self.refuses(TooMany, {"what": "tables", "most": 6}, Web, WEEKS, g=[], **SIX)
        self.refuses(TooMany, {"what": "tables", "most": 6}, Web, WEEKS, g=[Back("x", 1)] * 7, **SIX)

    def test_many_ties(self):
        self.assertEqual(len(Web(WEEKS, a=[Back("a", k) for k in range(1, 7)])["a"]), 6)
        self.refuses(TooMany, {"what": "ties", "most": 6}, Web, WEEKS, a=[Back("a", k) for k in range(1, 8)])
        self.refuses(TooMany, {"what": "ties", "most": 6}, Web, WEEKS, a=[Back("x", 1)], b=[Back("a", 1)] * 7)

    def test_first_source_that_is_no_table(self):
        self.refuses(NoTable, {"table": "y"}, Web.of, Cycle(60),
                     {"b": [Back("x", 1)], "a": [Back("b", 1), Sofar("y"), Whole("z")], "c": [Whole("c"), Whole("c")]})
        self.refuses(NoTable, {"table": "b"}, Web, WEEKS, a=[Ahead("b", 1)])
        self.refuses(NoTable, {"table": "self"}, Web, WEEKS, a=[Ahead("self", 1)])

    def test_edges(self):
        forty = Cycle(40)
        backs = {"b": [Back("a", k) for k in range(6)], "c": [Back("a", 3)] * 4}
        web = Web(forty, a=[Whole("a")], **backs)
        self.assertEqual(sum(len(tie.sources(day, forty)) for name in web for tie in web[name] for day in range(40)), 2000)
        many = {"what": "edges", "most": 2000}
        self.refuses(TooMany, many, Web, forty, a=[Whole("a"), Back("a", 1)], **backs)
        self.refuses(TooMany, many, Web, forty, a=[Whole("a")], d=[Back("c", 1)], **backs)
        self.refuses(TooMany, many, Web, Cycle(60), a=[Whole("a")])
        self.refuses(TooMany, many, Web, Cycle(60), a=[Sofar("b"), Sofar("b")], b=[])
        self.assertEqual(len(Web(Cycle(60), a=[Sofar("b")], b=[])), 2)

    def test_edges_of_blocks_of_unlike_lengths(self):
        many = {"what": "edges", "most": 2000}
        # Of each day of a block as many as the block before has: 10 * 50 + 50 * 10.
        web = Web(Cycle(10, 50), a=[Whole("b"), Last("b"), Same("b")], b=[])
        # Same tells 10 days of the short block and 10 of the long one.
        edges = 1000 + 60 + 20
        self.assertEqual(sum(len(tie.sources(day, web.cycle)) for tie in web["a"] for day in range(60)), edges)
        more = web.put("c", [Back("a", k) for k in range(6)]).put("d", [Back("a", k) for k in range(6)])
        self.assertEqual(more.put("e", [Back("a", k) for k in range(3)])["e"], tuple(Back("a", k) for k in range(3)))
        self.refuses(TooMany, many, more.put, "e", [Back("a", k) for k in range(4)])
        last = more.put("e", [Back("a", k) for k in range(3)])
        self.assertEqual(len(last.put("f", [Same("b")])), 6)
        self.refuses(TooMany, many, last.put, "f", [Same("b"), Same("b")])

    def test_several_wrong_things(self):
        wrong = {"A": [], "b": None, "c": [Back("x", 1)] * 7, "d": [Whole("d")] * 2, "e": [], "f": [], "g": []}
        sixty = Cycle(60)
        self.refuses(BadCycle, {"at": None}, Web.of, 60, wrong)
        self.refuses(BadName, {"value": "A"}, Web.of, sixty, wrong)
        wrong["a"] = wrong.pop("A")
        self.refuses(BadTies, {"table": "b"}, Web.of, sixty, wrong)
        wrong["b"] = []
        self.refuses(TooMany, {"what": "tables", "most": 6}, Web.of, sixty, wrong)
        del wrong["g"]
        self.refuses(TooMany, {"what": "ties", "most": 6}, Web.of, sixty, wrong)
        wrong["c"] = [Back("x", 1)]
        self.refuses(NoTable, {"table": "x"}, Web.of, sixty, wrong)
        wrong["c"] = []
        self.refuses(TooMany, {"what": "edges", "most": 2000}, Web.of, sixty, wrong)


class Records(Checked):

    def test_each_once_and_turned_about(self):
        rng = random.Random(10)
        for _ in range(150):
            web = some_web(rng, 5)
            total = web.cycle.total
            users = {}
            for table in web:
                for day in range(-10 * total - 40, 10 * total + 40):
                    found = web.sources(table, day)
                    self.assertEqual(found, tuple(made_from(web, (table, day))))
                    for source in found:
                        users.setdefault(source, []).append((table, day))
            for table in web:
                for day in range(-total, total):
                    self.assertEqual(web.users(table, day), tuple(sorted(users.get((table, day), []))))

    def test_moved_by_whole_cycles(self):
        rng = random.Random(11)
        for _ in range(60):
            web = some_web(rng, 4)
            for table in web:
                for day in (FAR, -FAR, rng.randint(-FAR, FAR)):
                    rest = day % web.cycle.total
                    for ask in (web.sources, web.users):
                        self.assertEqual(ask(table, day), tuple((name, k + day - rest) for name, k in ask(table, rest)))

    def test_several_ties_tell_a_record(self):
        web = Web(WEEKS, a=[], b=[Back("a", 0), Sofar("a"), Back("a", 1), Back("a", 0)], c=[Sofar("b"), Back("a", 0)])
        self.assertEqual(web.sources("b", 8), (("a", 7), ("a", 8)))
        self.assertEqual(web.sources("c", 7), (("a", 7), ("b", 7)))
        self.assertEqual(web.sources(day=0, table="b"), (("a", -1), ("a", 0)))
        self.assertEqual(web.users(day=13, table="a"), (("b", 13), ("b", 14), ("c", 13)))
        self.assertEqual([web.sources("a", 5), web.users("c", 5)], [(), ()])
        self.assertEqual(Web(LONG, a=[Same("b")], b=[]).sources("a", 4), ())

    def test_wrong_places(self):
        web = Web(WEEKS, a=[], b=[Back("a", 0)])
        for ask in (web.sources, web.users):
            for value in [*NOT_NAMES, "c", "ab"]:
                self.refuses(NoTable, {"table": value}, ask, value, 0)
                self.refuses(NoTable, {"table": value}, ask, value, None)
            for value in NOT_DAYS:
                self.refuses(BadDay, {"value": value}, ask, "b", value)
                self.refuses(BadDay, {"value": value}, ask, table="a", day=value)


class Changed(Checked):

    def setUp(self):
        self.web = Web(WEEKS, a=[], b=[Back("a", 0), Back("b", 1)], c=[Sofar("b")])
        self.same = Web(WEEKS, a=[], b=[Back("a", 0), Back("b", 1)], c=[Sofar("b")])

    def tearDown(self):
        self.assertEqual(self.web, self.same)
        self.assertEqual(self.web.tables, ("a", "b", "c"))

    def test_put(self):
        ties = [Back("c", 2)]
        found = self.web.put("a", ties)
        ties.append(Sofar("a"))
        self.assertEqual(found, Web(WEEKS, a=[Back("c", 2)], b=self.web["b"], c=self.web["c"]))
        self.assertEqual(self.web.put(ties=(Last("d"),), table="d").tables, ("a", "b", "c", "d"))
        self.assertEqual(self.web.put("b", ()).ground, ("a", "b"))
        self.assertEqual(self.web.put("self", [Last("self")])["self"], (Last("self"),))
        self.assertEqual(self.web.put("b", [Back("b", 1), Back("a", 0)]) == self.web, False)

    def test_put_refuses(self):
        for value in NOT_NAMES:
            self.refuses(BadName, {"value": value}, self.web.put, value, [])
            self.refuses(BadName, {"value": value}, self.web.put, value, None)
        for value in (None, 5, "a", {}, [None], Back("a", 1)):
            self.refuses(BadTies, {"table": "d"}, self.web.put, "d", value)
        full = Web(WEEKS, **SIX)
        self.refuses(TooMany, {"what": "tables", "most": 6}, full.put, "g", [])
        self.refuses(BadTies, {"table": "g"}, full.put, "g", None)
        self.assertEqual(full.put("f", [Back("f", 1)])["f"], (Back("f", 1),))
        self.refuses(TooMany, {"what": "ties", "most": 6}, self.web.put, "a", [Back("x", 1)] * 7)
        self.refuses(NoTable, {"table": "x"}, self.web.put, "a", [Back("a", 1), Back("x", 1)])
        self.refuses(TooMany, {"what": "edges", "most": 2000}, Web(Cycle(60), a=[]).put, "b", [Whole("a")])

    def test_without(self):
        self.assertEqual(self.web.without("c"), Web(WEEKS, a=[], b=self.web["b"]))
        self.assertEqual(self.web.without(table="c").without("b").without("a"), Web(WEEKS))
        for value in [*NOT_NAMES, "d"]:
            self.refuses(NoTable, {"table": value}, self.web.without, value)
        self.refuses(InUse, {"table": "b"}, self.web.without, "b")
        self.refuses(InUse, {"table": "a"}, self.web.without, "a")

    def test_joined(self):
        other = Web(WEEKS, c=[], d=[Back("c", 1)], b=self.web["b"], a=[Back("d", 9)])
        both = self.web | other
        self.assertEqual(both, Web(WEEKS, a=[Back("d", 9)], b=self.web["b"], c=[Sofar("b")], d=[Back("c", 1)]))
        self.assertEqual(other | self.web, both)
        self.assertEqual(both.tables, ("a", "b", "c", "d"))
        self.assertEqual(self.web | Web(WEEKS), self.web)
        self.assertEqual(Web(WEEKS) | self.web, self.web)
        self.assertEqual(self.web | self.web, self.web)
        words = Web.of(WEEKS, {"self": [Back("cycle", 1)], "cycle": []})
        self.assertEqual((words | self.web)["self"], (Back("cycle", 1),))
        self.assertEqual(other["c"], ())

    def test_joined_refuses(self):
        self.refuses(Unlike, {"part": "cycle"}, operator.or_, self.web, Web(LONG, b=[Back("b", 2)]))
        self.refuses(Unlike, {"part": "b"}, operator.or_, self.web, Web(WEEKS, c=[Sofar("c")], b=[Back("b", 2)]))
        self.refuses(Unlike, {"part": "c"}, operator.or_, self.web, Web(WEEKS, c=[Sofar("c")], b=[], a=[Back("a", 2)]))
        turned = Web(WEEKS, a=[], b=[Back("b", 1), Back("a", 0)])
        self.refuses(Unlike, {"part": "b"}, operator.or_, self.web, turned)
        self.refuses(Unlike, {"part": "b"}, operator.or_, turned, self.web)
        self.refuses(TooMany, {"what": "tables", "most": 6}, operator.or_, self.web, Web(WEEKS, d=[], e=[], f=[], g=[]))
        self.refuses(Unlike, {"part": "b"}, operator.or_, self.web, Web(WEEKS, b=[Last("b")], d=[], e=[], f=[], g=[]))
        half = Web(Cycle(60), a=[Sofar("a")])
        self.refuses(TooMany, {"what": "edges", "most": 2000}, operator.or_, half, Web(Cycle(60), b=[Sofar("b")]))
        for value in (None, 5, "a", {}, Days.none()):
            with self.assertRaises(TypeError):
                self.web | value


if __name__ == "__main__":
    unittest.main()
