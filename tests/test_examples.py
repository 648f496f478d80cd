"""The examples of the document, with just the answers that stand there."""
import unittest

from remadedays.again import again, again_count
from remadedays.alike import parted
from remadedays.cycles import Cycle
from remadedays.days import Days
from remadedays.desk import Desk
from remadedays.errors import BadLine, BadNumber, BadText, InUse, NotYet, NoTable, TooShort, Unsound
from remadedays.explained import explained
from remadedays.house import House
from remadedays.hung import hung, roots, way
from remadedays.lateness import least_rule, stands
from remadedays.looker import shows_hung, shows_settled, shows_sound, shows_way
from remadedays.lots import listed, lots
from remadedays.papers import hung_paper, settled_paper, sound_paper, way_paper
from remadedays.reader import read_web
from remadedays.rings import heights, ring
from remadedays.rules import Keeping, Rule
from remadedays.settled import settled
from remadedays.texts import web_text
from remadedays.ties import Ahead, Back, Last, Same, Sofar, Tie, Whole
from remadedays.webs import Web
from samples import Checked


def example_web(weeks):
    """The web of the examples."""
    return Web(weeks, sales=(), total=(Back("total", 1), Back("sales", 0)), week=(Sofar("sales"),),
               lag=[Back("sales", 7)], mix=[Back("total", 0), Back("sales", 0)])


def ahead_web(weeks):
    """The web of the examples that looks ahead."""
    return Web(weeks, x=[Ahead("y", 1)], y=[Back("x", 2), Back("s", 0)], s=[])


def pair_web(weeks):
    """The web of the examples in which one table reads two days of another."""
    return Web(weeks, sales=[], a=[Back("sales", 0), Back("sales", 7)])


def sums_web(weeks):
    """The web of the examples with a running total."""
    return Web(weeks, sales=[], total=[Back("total", 1), Back("sales", 0)])


class Examples(Checked):

    def test_days(self):
        odd = Days.every(14, 0) & Days.from_day(-3)
        self.assertEqual([str(odd), odd.least, odd.greatest, odd.right_period, odd.left_period, 28 in odd,
                          odd.after(10 ** 30), odd.before(0)],
                         ["right 14 0 from 0", 0, None, 14, 1, True, 1000000000000000000000000000006, None])
        self.assertEqual([str(odd | Days.of([5, 3])), str(~Days.of([2])), str((odd + 7) - Days.from_day(30)),
                          str(Days.every(6, 1, 4, -3))],
                         ["days 0 3 5 right 14 0 from 6", "left 1 0 until 1 right 1 0 from 3", "days 7 21", "every 6 1 3 4"])
        self.assertEqual([odd.parts, Days.of([4]).parts, Days.always().parts],
                         [((1, ()), 0, (), 0, (14, (0,))), ((1, ()), 4, (4,), 5, (1, ())),
                          ((1, (0,)), None, (), None, (1, (0,)))])
        self.assertEqual([odd <= Days.every(7, 0), odd.count(0, 10 ** 20), list(odd.within(10, 60)), str(odd & (odd + 1)),
                          3 + Days.of([1, 2]) == Days.of([5, 4])],
                         [True, 7142857142857142858, [14, 28, 42, 56], "none", True])
        self.refuses(BadNumber, {"value": 4001}, Days.every, 4001, 0)

    def test_texts_of_days(self):
        self.assertEqual([Days.read("days 1 2 right 1 0 from 3") == Days.from_day(1),
                          str(Days.read("left 2 0 until 4 days 6"))],
                         [True, "left 2 0 until 7"])
        self.refuses(BadText, {"line": 0, "word": 3}, Days.read, "every 7 3 3")

    def test_cycles(self):
        weeks, long = Cycle(7), Cycle(2, 3)
        self.assertEqual([weeks.block(-1), weeks.first(10), weeks.last(10), weeks.place(10), 10 % weeks, -1 // weeks],
                         [-1, 7, 13, 3, 3, -1])
        self.assertEqual([long.total, long.block(9), long.first(9), long.place(9), long.length(9), list(long), str(long)],
                         [5, 3, 7, 2, 3, [2, 3], "2 3"])

    def test_ties(self):
        weeks, long = Cycle(7), Cycle(2, 3)
        self.assertEqual([Back("a", 3).sources(2, weeks), Ahead("a", 1).users(0, weeks), Sofar("a").sources(9, weeks),
                          Sofar("a").users(9, weeks)], [(-1,), (-1,), (7, 8, 9), (9, 10, 11, 12, 13)])
        self.assertEqual([Whole("a")(3, long), Last("a")(5, long), Same("a")(4, long), Same("a")(8, long),
                          Whole("a").users(0, long), Last("a").users(1, long)],
                         [(0, 1), (4,), (), (6,), (2, 3, 4), (2, 3, 4)])
        self.assertEqual([str(Back("a", 3)), Tie.read("last a") == Last("a"), Sofar("a") == Whole("a")],
                         ["back 3 a", True, False])

    def test_webs(self):
        weeks = Cycle(7)
        web = example_web(weeks)
        self.assertEqual([web.tables, web.ground, web["lag"] == (Back("sales", 7),), web.sources("total", 3),
                          web.users("sales", 12)],
                         [("lag", "mix", "sales", "total", "week"), ("sales",), True, (("sales", 3), ("total", 2)),
                          (("lag", 19), ("mix", 12), ("total", 12), ("week", 12), ("week", 13))])
        self.refuses(InUse, {"table": "total"}, web.without, "total")
        self.refuses(NoTable, {"table": "sales"}, Web, weeks, total=[Back("sales", 0)])

    def test_rings(self):
        weeks = Cycle(7)
        ahead = ahead_web(weeks)
        found = heights(ahead)
        self.assertEqual([ring(ahead), found.due("x", 5), found.due("y", 5), found["x", 0], found["y", 0], found.key("y", 5)],
                         [None, 6, 5, 23, 1, (5, 106, "y", 5)])
        self.assertEqual(ring(ahead.put("y", [Back("x", 1)])), (("x", 0), ("y", 1), ("x", 0)))
        self.refuses(Unsound, {"table": "a"}, heights, Web(weeks, a=[Sofar("a")]))

    def test_hung(self):
        weeks = Cycle(7)
        web = example_web(weeks)
        found = hung(web, "sales", 2)
        self.assertEqual([found.tables, str(found["week"]), str(found["total"]), str(found["lag"]), ("mix", 10 ** 40) in found],
                         [("lag", "mix", "sales", "total", "week"), "days 2 3 4 5 6", "right 1 0 from 2", "days 9", True])
        self.assertEqual([str(roots(web, "mix", 3)["sales"]), way(web, "sales", 2, "mix", 4), way(web, "sales", 2, "week", 7)],
                         ["left 1 0 until 3", (("sales", 2), ("total", 2), ("total", 3), ("total", 4), ("mix", 4)), None])
        turns = Web(weeks, a=[Back("b", 7)], b=[Back("a", 7)])
        self.assertEqual([str(hung(turns, "a", 0)["a"]), str(hung(turns, "a", 0)["b"])],
                         ["right 14 0 from 0", "right 14 7 from 7"])
        self.assertEqual(str(hung(ahead_web(weeks), "s", 5)), "s days 5\nx right 1 0 from 4\ny right 1 0 from 5")

    def test_rules(self):
        rule = Rule(total=2, week=2, lag=2, mix="all")
        self.assertEqual([rule["total"], rule["sales"], Keeping()["sales"], rule.told, str(rule),
                          rule <= rule.put("lag", "all"),
                          Rule.read("a 0 b all") == Rule(b="all")],
                         [2, 0, "all", ("lag", "mix", "total", "week"), "lag 2 mix all total 2 week 2", True, True])

    def test_again(self):
        web = example_web(Cycle(7))
        self.assertEqual(list(again(web, [("sales", 2), ("sales", 3)], 3)),
                         [("total", 2), ("week", 2), ("mix", 2), ("total", 3), ("week", 3), ("mix", 3)])
        self.assertEqual(again_count(web, [("sales", 2)], 10 ** 20), 200000000000000000004)

    def test_settled(self):
        weeks = Cycle(7)
        web, pair, ahead = example_web(weeks), pair_web(weeks), ahead_web(weeks)
        rule = Rule(total=2, week=2, lag=2, mix="all")
        late = settled(web, rule, None, "sales", 10, 2)
        self.assertEqual([str(late.right), str(late.stale), str(late.half)],
                         ["lag days 17\nsales days 10\nweek days 11 12 13",
                          "mix right 1 0 from 11\ntotal right 1 0 from 10\nweek days 10", "mix days 10"])
        self.assertEqual([bool(late), bool(settled(web, rule, None, "sales", 10, 1)), late.state("mix", 10),
                          late.state("week", 14), late.state("total", 10 ** 30)], [False, True, "half", "clear", "stale"])
        self.assertEqual([str(settled(pair, Rule(a="all"), Keeping(sales=7), "sales", 10, 0).stale),
                          bool(settled(pair, Rule(a="all"), Keeping(sales=8), "sales", 10, 0))], ["a days 10", True])
        self.assertEqual([bool(settled(ahead, Rule(x=1, y=1), None, "s", 5, 0)),
                          str(settled(ahead, Rule(x=1, y=1), None, "s", 5, 1).stale)],
                         [True, "x right 1 0 from 4\ny right 1 0 from 5"])
        self.refuses(TooShort, {"table": "sales"}, settled, pair, Rule(), Keeping(sales=6), "sales", 10, 0)

    def test_lateness(self):
        weeks = Cycle(7)
        web, pair = example_web(weeks), pair_web(weeks)
        rule = Rule(total=2, week=2, lag=2, mix="all")
        self.assertEqual([stands(web, rule).nights, stands(web, rule).beyond, str(least_rule(web, 5)),
                          str(least_rule(web, None))],
                         [1, ("sales", 0, 2, ("total", 0), ("old",)), "mix 6 total 6 week 6",
                          "lag all mix all total all week all"])
        self.assertEqual([stands(pair, Rule(a="all"), Keeping(sales=7)).beyond, stands(web, least_rule(web, 5)).nights,
                          stands(web, least_rule(web, None)).nights],
                         [("sales", 0, 0, ("a", 0), ("gone", ("sales", -7))), 5, None])

    def test_lots(self):
        sums = sums_web(Cycle(7))
        self.assertEqual([lots(sums, "sales", 0, 100, 1), lots(sums, "sales", 0, 100, 2), lots(sums, "sales", 5, 0, 1),
                          lots(sums, "sales", 5, 10 ** 30, 3)], [None, 100, 1, 500000000000000000000000000000])
        self.assertEqual([listed(sums, "sales", 0, 100, 2, 0), listed(sums, "sales", 0, 100, 2, 99),
                          listed(sums, "sales", 0, 100, 2, 100), listed(sums, "sales", 0, 1, 1, 10 ** 9)], [101, 2, 0, 2])

    def test_alike(self):
        sums = sums_web(Cycle(7))
        self.assertEqual([parted(sums, sums.put("total", [Back("total", 1), Back("sales", 0), Back("sales", 3)])),
                          parted(sums, sums.put("total", [Sofar("sales"), Back("total", 2)]))],
                         [None, (("sales", 6), ("total", 7))])

    def test_explained(self):
        web = example_web(Cycle(7))
        self.assertEqual([str(explained(web, [("week", 12), ("total", 9)])),
                          str(explained(web, [("week", 12)], [("week", 10)])),
                          str(explained(web, [("lag", 9), ("week", 9)]))], ["sales days 7 8 9", "sales days 11 12", "none"])

    def test_house(self):
        house = House(example_web(Cycle(7)), Rule(total=2, week=2, lag=2, mix="all"), night=12)
        self.assertEqual([house.correct("sales", 10), house.state(0, "total", 10), house.wrong("week"), house.sleep(),
                          house.state(0, "mix", 10), house.wrong("week"), house.night],
                         [None, "stale", (10, 11, 12), None, "half", (10,), 13])
        self.assertEqual([house.sleep(5), house.wrong("mix"), house.state(0, "lag", 17), house.state(0, "lag", 24),
                          house.undo(),
                          house.night], [None, (10, 11, 12, 13, 14, 15, 16, 17, 18), "right", "missing", True, 13])
        self.refuses(NotYet, {"value": 14}, house.correct, "sales", 14)

    def test_papers(self):
        weeks = Cycle(7)
        web, pair, sums = example_web(weeks), pair_web(weeks), sums_web(weeks)
        rule = Rule(total=2, week=2, lag=2, mix="all")
        self.assertEqual([hung_paper(pair, "sales", 3), shows_hung(pair, "sales", 3, hung_paper(pair, "sales", 3)),
                          shows_hung(pair, "sales", 4, hung_paper(pair, "sales", 3))],
                         [("hung", (("a", ((1, ()), 3, (3, 10), 11, (1, ()))), ("sales", ((1, ()), 3, (3,), 4, (1, ()))))),
                          True, False])
        self.assertEqual([way_paper(pair, "sales", 3, "a", 10), shows_way(pair, "sales", 3, "a", 10,
                                                                          ("way", (("sales", 3), ("a", 10)))),
                          way_paper(pair, "sales", 3, "a", 9)[0]], [("way", (("sales", 3), ("a", 10))), True, "apart"])
        self.assertEqual([sound_paper(sums)[1][1], shows_sound(sums, sound_paper(sums)),
                          shows_settled(web, rule, None, "sales", 10, 2, settled_paper(web, rule, None, "sales", 10, 2))],
                         [("total", (1, 1, 1, 1, 1, 1, 1)), True, True])

    def test_texts(self):
        pair = pair_web(Cycle(7))
        self.assertEqual(web_text(pair), "cycle 7\ntable a from back 0 sales from back 7 sales\ntable sales")
        self.assertEqual([read_web(web_text(pair)) == pair, Days.read("days 1 2 right 1 0 from 3") == Days.from_day(1),
                          str(Days.read("left 2 0 until 4 days 6"))], [True, True, "left 2 0 until 7"])
        self.refuses(BadText, {"line": 1, "word": 4}, read_web, "cycle 7\ntable a from ahead 0 b")

    def test_desk(self):
        desk = Desk()
        self.assertEqual(desk.run("table sales", "table total from back 1 total from back 0 sales", "rule total 2",
                                  "hung sales 4", "stands",
                                  "lots sales 0 100 2", "state sales 10 2 total 11"),
                         ["ok", "ok", "ok", "sales days 4 ; total right 1 0 from 4", "1", "100", "stale"])
        self.refuses(InUse, {"table": "sales"}, desk.run, "least 3", "undo", "least all", "settled sales 10 0", "sound",
                     "drop sales")
        self.assertEqual(desk.run("settled sales 10 1", "sound"),
                         ["right sales days 10 ; total right 1 0 from 10 stale none half none", "sound"])
        self.refuses(BadLine, {"word": 2}, desk.ask, "hung sales")


if __name__ == "__main__":
    unittest.main()
