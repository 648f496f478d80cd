"""A web that lives: nights that pass, and corrections that come between them."""
from remadedays.courses import Course
from remadedays.errors import BadDay, BadNumber, NotYet, NoTable, TooMany
from remadedays.kinds import BEYOND, is_between, is_day
from remadedays.limits import checked_limits, kept_for
from remadedays.rounds import Rounds
from remadedays.settled import MOST_LATE

MOST_SLEPT = 400
MOST_CORRECTIONS = 20


class House:
    """A web of which everything was made rightly up to a night, under a rule and a keeping."""

    def __init__(self, web, rule, keeping=None, night=0):
        rounds = Rounds(web)
        limits = checked_limits(web, rounds, rule, kept_for(keeping))
        if not is_day(night):
            raise BadDay(night)
        self._web = web
        self._rounds = rounds
        self._limits = limits
        self._first = night
        self._now = Moment(night, (), (), None)

    @property
    def night(self):
        """The last night that was done."""
        return self._now.slept

    @night.setter
    def night(self, value):
        self.sleep_until(value)

    @property
    def corrections(self):
        """The tuple of the corrections, each a tuple (table, day, night behind which it came)."""
        return self._now.came

    def __len__(self):
        return len(self._now.came)

    def __getitem__(self, at):
        if not is_between(at, 0, len(self._now.came) - 1):
            raise BadNumber(at)
        return self._now.came[at]

    def __iter__(self):
        raise TypeError("houses are not iterated over")

    def sleep(self, nights=1):
        """So many nights pass."""
        if not is_between(nights, 0, BEYOND - 1):
            raise BadNumber(nights)
        self.pass_to(self._now.slept + nights)

    def sleep_until(self, night):
        """The nights up to this one pass."""
        if not is_day(night) or night < self._now.slept:
            raise BadNumber(night)
        self.pass_to(night)

    def pass_to(self, night):
        """The nights up to this one pass, which is the last one that was done, or a later one."""
        if night - self._first > MOST_SLEPT:
            raise TooMany("nights", MOST_SLEPT)
        now = self._now
        self._now = Moment(night, now.came, now.courses, now)

    def correct(self, table, day):
        """A record of a ground table is corrected now."""
        self._web.check_ground(table, day)
        now = self._now
        if day > now.slept:
            raise NotYet(day)
        if now.slept - day > MOST_LATE:
            raise TooMany("late", MOST_LATE)
        if len(now.came) == MOST_CORRECTIONS:
            raise TooMany("corrections", MOST_CORRECTIONS)
        told = (table, day, now.slept)
        course = Course(self._rounds, self._limits, told)
        self._now = Moment(now.slept, (*now.came, told), (*now.courses, course), now)

    def __iadd__(self, other):
        table, day = other
        self.correct(table, day)
        return self

    def state(self, k, table, day):
        """The state of a record for the correction with the index k."""
        now = self._now
        if not is_between(k, 0, len(now.came) - 1):
            raise BadNumber(k)
        self._web.check_place(table, day)
        if self._rounds.due_of(table, day) > now.slept:
            return "missing"
        return now.courses[k].state_behind(now.slept, table, day)

    def wrong(self, table):
        """The ascending tuple of the days of a table that are due and stale or half for some correction."""
        if table not in self._web:
            raise NoTable(table)
        now = self._now
        days = {}
        for course in now.courses:
            for day in course.wrong_behind(now.slept, table):
                days[day] = True
        return tuple(sorted([int(at) for at in days]))

    def undo(self):
        """Takes back the last sleep or correction that is not taken back; returns whether there was one."""
        ahead = self._now.ahead
        if ahead is None:
            return False
        self._now = ahead
        return True

    def trial(self):
        """What leaves the house, behind the rows of its `with`, as it was ahead of them."""
        return Trial(self)

    def tried(self, work):
        """What the work returns for this house, which is left as it was."""
        with self.trial() as same:
            return work(same)


class Moment:
    """What a house is behind a step: the last night that was done, its corrections, and their courses.

    A moment never changes. The moment ahead of the step is None at the beginning.
    """

    def __init__(self, slept, came, courses, ahead):
        self.slept = slept
        self.came = came
        self.courses = courses
        self.ahead = ahead


class Trial:
    """A house that is tried: it goes back, at the end of each block, to the moment at which that block began."""

    def __init__(self, house):
        self._house = house
        self._held = None

    def __enter__(self):
        house = self._house
        self._held = Held(house._now, self._held)
        return house

    def __exit__(self, kind, value, trace):
        house = self._house
        house._now = self._held.now
        self._held = self._held.outer


class Held:
    """The moment at which a block began, and the one that holds that of the block around it."""

    def __init__(self, now, outer):
        self.now = now
        self.outer = outer
