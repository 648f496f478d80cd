"""A house: its words beside the states, and what it refuses."""
import random

from remadedays.errors import BadDay, BadNumber, NotGround, NotYet, NoTable, TooMany, TooShort, Unsound
from remadedays.house import House
from remadedays.rules import Keeping, Rule
from remadedays.ties import Ahead, Back, Last, Sofar
from remadedays.webs import Web
from samples import FAR, LONG, NOT_DAYS, NOT_NAMES, WEEKS, Checked

WEB = Web(WEEKS, g=[], h=[], a=[Back("g", 0), Back("a", 1)], b=[Sofar("h"), Back("a", 2)])
RULE = Rule(a=2, b="all")
NOT_NUMBERS = [*NOT_DAYS, -1, -FAR]


class Broken(Exception):
    """An error of a caller."""


def told(house):
    """All that a house tells of itself."""
    return (house.night, house.corrections, len(house), [house[k] for k in range(len(house))],
            [house.wrong(table) for table in WEB])


def all_steps(house):
    """What a house tells behind each step that it takes back, up to its beginning; it is left as it was."""
    found = [told(house)]
    with house.trial():
        while house.undo():
            found.append(told(house))
    return found


class Words(Checked):

    def setUp(self):
        self.house = House(WEB, RULE, night=10)

    def test_nights_pass(self):
        house = self.house
        self.assertEqual(house.night, 10)
        for nights, night in ((1, 11), (0, 11), (7, 18)):
            self.assertIsNone(house.sleep(nights))
            self.assertEqual(house.night, night)
        self.assertIsNone(house.sleep())
        self.assertIsNone(house.sleep(nights=2))
        self.assertEqual(house.night, 21)
        self.assertIsNone(house.sleep_until(21))
        self.assertIsNone(house.sleep_until(night=25))
        self.assertEqual(house.night, 25)
        house.night = 25
        house.night = 30
        house.night += 2
        self.assertEqual(house.night, 32)
        self.assertIs(type(vars(House)["night"]), property)
        self.assertIs(type(vars(House)["corrections"]), property)
        with self.assertRaises(AttributeError):
            house.corrections = ()

    def test_corrections(self):
        house = same = self.house
        self.assertIsNone(house.correct("g", 10))
        house += ("h", 3)
        self.assertIs(house, same)
        self.assertIsNone(house.correct(day=10, table="g"))
        house.sleep(4)
        house.correct("g", 14)
        wanted = (("g", 10, 10), ("h", 3, 10), ("g", 10, 10), ("g", 14, 14))
        self.assertEqual([house.corrections, len(house)], [wanted, 4])
        self.assertEqual([house[k] for k in range(4)], list(wanted))
        self.assertEqual([house.state(3, "a", 14), house.state(day=14, table="a", k=0), house.wrong(table="b")],
                         ["stale", "right", ()])
        self.assertIs(type(house.corrections), tuple)
        self.assertIs(type(house[0]), tuple)
        self.assertIs(type(house.wrong("a")), tuple)

    def test_first_night_and_keeping(self):
        self.assertEqual([House(WEB, RULE).night, House(WEB, RULE, None).night, House(WEB, RULE, Keeping(), -5).night],
                         [0, 0, -5])
        house = House(night=FAR, keeping=Keeping(g=0), rule=Rule(a="all"), web=WEB)
        house.correct("g", FAR)
        house.sleep()
        self.assertEqual([house.night, house.state(0, "a", FAR), house.wrong("a")], [10 ** 60, "stale", (FAR, 10 ** 60)])
        # No day is the night of this house any more.
        for value in (FAR, 10 ** 60, 10 ** 60 + 1):
            self.refuses(BadNumber, {"value": value}, house.sleep_until, value)
        house.correct("h", FAR)
        self.assertEqual(house.corrections, (("g", FAR, FAR), ("h", FAR, 10 ** 60)))
        kept = House(WEB, Rule(a="all"), None, FAR)
        kept.correct("g", FAR)
        kept.sleep(400)
        self.assertEqual(kept.wrong("a"), ())
        self.assertEqual(House(WEB, RULE, night=-FAR).wrong("a"), ())

    def test_undo_to_the_beginning(self):
        house = self.house
        self.assertIs(house.undo(), False)
        house.correct("g", 8)
        house.sleep(2)
        house.sleep(0)
        house += ("h", 12)
        house.night = 15
        house.sleep_until(15)
        wanted = [(15, 2), (15, 2), (12, 2), (12, 1), (12, 1), (10, 1), (10, 0)]
        for night, many in wanted[1:]:
            self.assertIs(house.undo(), True)
            self.assertEqual([house.night, len(house)], [night, many])
        for _ in range(3):
            self.assertIs(house.undo(), False)
        self.assertEqual(told(house), told(House(WEB, RULE, night=10)))

    def test_steps_behind_an_undo(self):
        house = self.house
        house.correct("g", 10)
        house.sleep(5)
        house.undo()
        house.sleep(1)
        self.assertEqual([house.night, house.state(0, "a", 11)], [11, "right"])
        house.correct("g", 11)
        house.undo()
        house.correct("h", 9)
        self.assertEqual(house.corrections, (("g", 10, 10), ("h", 9, 11)))
        self.assertEqual([house.undo(), house.undo(), house.undo(), house.undo()], [True, True, True, False])

    def test_drawn_steps(self):
        rng = random.Random(141)
        for _ in range(40):
            night = rng.choice([0, 5, -10 ** 40, FAR - 300])
            house, past = House(WEB, RULE, None, night), [(night, ())]
            for _ in range(30):
                now, fixes = past[-1]
                kind = rng.randrange(5)
                if kind == 0:
                    self.assertIs(house.undo(), len(past) > 1)
                    past = past[:-1] if len(past) > 1 else past
                elif kind < 3:
                    nights = rng.randint(0, 5)
                    rng.choice([house.sleep, lambda many: house.sleep_until(now + many)])(nights)
                    past.append((now + nights, fixes))
                elif len(fixes) < 20:
                    table, day = rng.choice("gh"), now - rng.randint(0, 9)
                    house.correct(table, day)
                    past.append((now, (*fixes, (table, day, now))))
                self.assertEqual([house.night, house.corrections, len(house)], [*past[-1], len(past[-1][1])])
            self.assertEqual(told(house), told(self.lived_again(night, past[-1])))
            self.assertEqual([step[:2] for step in all_steps(house)], past[::-1])

    def lived_again(self, night, moment):
        """A house that comes to a moment straight."""
        house = House(WEB, RULE, None, night)
        for table, day, came in moment[1]:
            house.night = came
            house.correct(table, day)
        house.night = moment[0]
        return house

    def test_side_by_side(self):
        one, other = self.house, House(WEB, RULE, night=10)
        before = all_steps(other)
        one.correct("g", 4)
        one.sleep(3)
        self.assertEqual(all_steps(other), before)
        other.correct("h", 10)
        other.sleep(3)
        self.assertEqual([one.wrong("b"), one.corrections], [one.wrong("b"), (("g", 4, 10),)])
        self.assertNotEqual(told(one), told(other))

    def test_what_is_passed_can_change(self):
        tables = {"g": [], "a": [Back("g", 0)]}
        house = House(Web.of(WEEKS, tables), Rule(a=1), night=3)
        tables["a"].append(Back("a", 1))
        house.correct("g", 3)
        self.assertEqual([house.state(0, "a", 3), house.wrong("a")], ["stale", (3,)])


class Trials(Checked):

    def setUp(self):
        self.house = House(WEB, RULE, night=10)
        self.house.correct("g", 5)
        self.house.sleep(2)
        self.before = all_steps(self.house)

    def same(self):
        """The house is as it was, also in what can be undone."""
        self.assertEqual(all_steps(self.house), self.before)

    def test_trial(self):
        with self.house.trial() as same:
            self.assertIs(same, self.house)
            same.sleep(3)
            same.correct("h", 15)
            self.assertEqual([len(self.house), self.house.night], [2, 15])
        self.same()

    def test_trial_that_an_error_leaves(self):
        for wrong in (Broken("x"), KeyError(3), KeyboardInterrupt()):
            with self.assertRaises(type(wrong)) as held:
                with self.house.trial() as same:
                    same.sleep(9)
                    raise wrong
            self.assertIs(held.exception, wrong)
            self.same()
        with self.assertRaises(NotYet):
            with self.house.trial():
                self.house.correct("g", 12)
                self.house.correct("g", 13)
        self.same()

    def test_undo_within(self):
        with self.house.trial() as same:
            same.sleep(1)
            self.assertEqual([same.undo(), same.undo(), same.undo(), same.undo()], [True, True, True, False])
            self.assertEqual([same.night, len(same)], [10, 0])
            same.correct("h", 1)
        self.same()

    def test_nested(self):
        with self.house.trial() as one:
            one.sleep(1)
            with one.trial() as two:
                two.correct("g", 13)
                with self.assertRaises(Broken):
                    with two.trial():
                        two.undo()
                        two.undo()
                        two.undo()
                        raise Broken
                self.assertEqual([one.night, len(one)], [13, 2])
            self.assertEqual([one.night, len(one)], [13, 1])
        self.same()

    def test_one_trial_more_than_once(self):
        trial = self.house.trial()
        with trial:
            self.house.sleep(5)
            with trial as same:
                same.sleep(2)
                with trial:
                    same.undo()
                self.assertEqual(same.night, 19)
            self.assertEqual(self.house.night, 17)
        self.same()
        self.house.sleep(1)
        self.before = all_steps(self.house)
        with trial:
            self.house.undo()
        self.same()

    def test_a_trial_begins_with_its_block(self):
        trial = self.house.trial()
        self.house.sleep(4)
        self.before = all_steps(self.house)
        with trial:
            self.house.sleep(1)
        self.same()

    def test_tried(self):
        def work(same):
            self.assertIs(same, self.house)
            same.sleep(8)
            same += ("g", 20)
            return same.wrong("a")
        self.assertEqual(self.house.tried(work), tuple(range(5, 21)))
        self.same()
        found = []
        self.assertIs(self.house.tried(work=lambda same: found), found)
        self.assertIsNone(self.house.tried(lambda same: same.sleep()))
        self.assertEqual(self.house.tried(House.undo), True)
        self.same()

    def test_tried_that_an_error_leaves(self):
        wrong = Broken("y")

        def work(same):
            same.undo()
            same.undo()
            same.sleep(30)
            raise wrong
        with self.assertRaises(Broken) as held:
            self.house.tried(work)
        self.assertIs(held.exception, wrong)
        self.same()
        self.refuses(TooMany, {"what": "nights", "most": 400}, self.house.tried, lambda same: same.sleep(399))
        self.same()

    def test_tried_within_a_trial(self):
        with self.house.trial() as same:
            same.sleep(1)
            night = same.tried(lambda one: (one.sleep(1), one.tried(lambda two: (two.sleep(1), two.night))[1], one.night))
            self.assertEqual([night, same.night], [(None, 15, 14), 13])
        self.same()


class Refused(Checked):

    def setUp(self):
        self.house = House(WEB, RULE, night=10)
        self.house.correct("g", 9)
        self.house.sleep(1)
        self.before = all_steps(self.house)

    def wrong(self, kind, attributes, work, *args, **named):
        """The error is raised, and the house is as it was."""
        self.refuses(kind, attributes, work, *args, **named)
        self.assertEqual(told(self.house), self.before[0])

    def tearDown(self):
        self.assertEqual(all_steps(self.house), self.before)

    def test_made(self):
        ring = Web(LONG, a=[], c=[Last("b")], b=[Ahead("c", 5)])
        back = Web(LONG, a=[], b=[Back("a", 2)])
        for value in NOT_DAYS:
            self.refuses(Unsound, {"table": "b"}, House, ring, Rule(), Keeping(b=0), value)
            self.refuses(TooShort, {"table": "a"}, House, back, Rule(), Keeping(a=1), value)
            self.refuses(TooShort, {"table": "a"}, House, night=value, keeping=Keeping(a=0), rule=Rule(b="all"), web=back)
            self.refuses(BadDay, {"value": value}, House, back, Rule(), Keeping(a=2), value)
            self.refuses(BadDay, {"value": value}, House, back, Rule(), night=value)
        self.refuses(Unsound, {"table": "b"}, House, ring, Rule())
        self.assertEqual(House(back, Rule(), Keeping(a=2)).night, 0)

    def test_sleep(self):
        for value in NOT_NUMBERS:
            self.wrong(BadNumber, {"value": value}, self.house.sleep, value)
            self.wrong(BadNumber, {"value": value}, self.house.sleep, nights=value)

    def test_night(self):
        for value in [*NOT_DAYS, 10, 0, -1, -FAR]:
            self.wrong(BadNumber, {"value": value}, self.house.sleep_until, value)
            self.wrong(BadNumber, {"value": value}, self.house.sleep_until, night=value)
            self.wrong(BadNumber, {"value": value}, setattr, self.house, "night", value)

    def test_too_many_nights(self):
        many = {"what": "nights", "most": 400}
        for value in (400, 401, 10 ** 30, FAR):
            self.wrong(TooMany, many, self.house.sleep, value)
        for value in (411, 10 ** 30, FAR):
            self.wrong(TooMany, many, self.house.sleep_until, value)
            self.wrong(TooMany, many, setattr, self.house, "night", value)
        for night in (0, -FAR, FAR, 17):
            house = House(WEB, RULE, night=night)
            house.sleep(400)
            self.assertEqual(house.night, night + 400)
            self.refuses(TooMany, many, house.sleep)
            self.assertIsNone(house.sleep(0))
            self.assertEqual([house.undo(), house.undo(), house.undo(), house.night], [True, True, False, night])
            house.sleep(1)
            self.refuses(TooMany, many, house.sleep, 400)
            house.sleep(399)
            self.refuses(TooMany, many, house.sleep, 1)
        # From one end of the days to the other.
        self.refuses(TooMany, many, House(WEB, RULE, night=-FAR).sleep_until, FAR)
        house = House(WEB, RULE)
        house.sleep(200)
        self.refuses(TooMany, many, setattr, house, "night", 401)
        house.night = 400
        self.assertEqual(house.night, 400)

    def test_indexes(self):
        for value in [*NOT_DAYS, 1, 2, -1, FAR, -FAR]:
            self.wrong(BadNumber, {"value": value}, self.house.__getitem__, value)
            self.wrong(BadNumber, {"value": value}, lambda k: self.house[k], value)
            self.wrong(BadNumber, {"value": value}, self.house.state, value, None, None)
            self.wrong(BadNumber, {"value": value}, self.house.state, day=3, table="g", k=value)
        self.refuses(BadNumber, {"value": 0}, lambda: House(WEB, RULE)[0])
        self.assertEqual(self.house[0], ("g", 9, 10))
        with self.assertRaises(TypeError):
            list(self.house)

    def test_state_and_wrong(self):
        for value in [*NOT_NAMES, "ab", "c"]:
            self.wrong(NoTable, {"table": value}, self.house.state, 0, value, None)
            self.wrong(NoTable, {"table": value}, self.house.state, 0, table=value, day=3)
            self.wrong(NoTable, {"table": value}, self.house.wrong, value)
            self.wrong(NoTable, {"table": value}, self.house.wrong, table=value)
        for value in NOT_DAYS:
            self.wrong(BadDay, {"value": value}, self.house.state, 0, "a", value)
            self.wrong(BadDay, {"value": value}, self.house.state, 0, day=value, table="g")
        self.assertEqual([self.house.state(0, "a", FAR), self.house.state(0, "a", -FAR)], ["missing", "clear"])

    def test_places_of_corrections(self):
        def add(table, day):
            self.house += (table, day)
        for correct in (self.house.correct, add):
            for value in [*NOT_NAMES, "ab", "c"]:
                self.wrong(NoTable, {"table": value}, correct, value, None)
                self.wrong(NoTable, {"table": value}, correct, value, 5)
            for value in [*NOT_DAYS, 12, FAR, -FAR]:
                self.wrong(NotGround, {"table": "a"}, correct, "a", value)
            for value in NOT_DAYS:
                self.wrong(BadDay, {"value": value}, correct, "g", value)
                self.wrong(BadDay, {"value": value}, correct, day=value, table="h")
            for value in (12, 13, 10 ** 50, FAR):
                self.wrong(NotYet, {"value": value}, correct, "g", value)
            for value in (-990, -991, -10 ** 50, -FAR):
                self.wrong(TooMany, {"what": "late", "most": 1000}, correct, "h", value)

    def test_bounds_of_lateness(self):
        for night in (11, 11 + 10 ** 50, FAR, 1001 - FAR):
            house = House(WEB, RULE, night=night)
            self.refuses(TooMany, {"what": "late", "most": 1000}, house.correct, "g", night - 1001)
            house.correct("g", night - 1000)
            house.correct("g", night)
            if night < FAR:
                self.refuses(NotYet, {"value": night + 1}, house.correct, "g", night + 1)
            house.sleep(1)
            self.refuses(TooMany, {"what": "late", "most": 1000}, house.correct, "g", night - 1000)
            self.assertEqual([len(house), house.state(0, "g", night - 1000)], [2, "right"])

    def test_too_many_corrections(self):
        house = House(WEB, RULE, night=30)
        for at in range(20):
            house.correct("gh"[at % 2], 30 - at // 3)
            if at % 4 == 0:
                house.sleep(1)
        many = {"what": "corrections", "most": 20}
        before = all_steps(house)
        self.refuses(TooMany, many, house.correct, "g", 30)
        # What is wrong in the record is told ahead of it.
        self.refuses(NoTable, {"table": "x"}, house.correct, "x", 30)
        self.refuses(NotGround, {"table": "b"}, house.correct, "b", 30)
        self.refuses(BadDay, {"value": None}, house.correct, "g", None)
        self.refuses(NotYet, {"value": 36}, house.correct, "g", 36)
        self.refuses(TooMany, {"what": "late", "most": 1000}, house.correct, "g", -1000)
        self.assertEqual(all_steps(house), before)
        self.assertEqual(len(house), 20)
        self.assertEqual([house.state(19, "g", 30), house.state(18, "g", 24)], ["clear", "right"])
        while len(house) == 20:
            house.undo()
        house.correct("g", 30)
        self.refuses(TooMany, many, house.correct, "h", 30)
