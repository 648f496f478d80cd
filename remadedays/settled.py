"""What becomes of a correction in the end: what is right, what stays stale or half."""
from remadedays.errors import BadDay, BadNumber, NoTable
from remadedays.kinds import is_between, is_day, is_name
from remadedays.limits import checked_limits, kept_for
from remadedays.rounds import Rounds
from remadedays.spread import Spread
from remadedays.turns import sets_of

MOST_LATE = 1000
# The values of the records; those of right and of stale ones together make a half one.
STALE = 2


def settled(web, rule, keeping, table, day, late):
    """What becomes of a correction of a ground record that is so many nights late."""
    check_correction(web, table, day, late)
    rounds = Rounds(web)
    return settled_in(web, rounds, checked_limits(web, rounds, rule, kept_for(keeping)), (table, day, late))


def check_correction(web, table, day, late):
    """Refuses what is no record of a ground table, and then what is no number of nights to be late."""
    web.check_ground(table, day)
    if not is_between(late, 0, MOST_LATE):
        raise BadNumber(late)


def settled_in(web, rounds, limits, correction):
    """The Settled of a correction (table, day, late), with the limits of the records."""
    table, day, late = correction
    rest = day % rounds.turn
    spread = Spread(rounds, table, rest, 1)
    first_nights(spread, limits, rest + late)
    right, stale, half = sets_of(spread, day, rest, late)
    return Settled(web, right, stale, half)


def first_nights(spread, limits, night):
    """Puts into a Spread, behind its record, what becomes of all that is due by the night of the correction."""
    rounds = spread.rounds
    index = spread.index_at(len(spread.row))
    while rounds.due_at(index) <= night:
        found = spread.joined_at(len(spread.row))
        limit = limits[index % rounds.width]
        if found != 0 and limit is not None and night + 1 - rounds.due_at(index) > limit:
            found = STALE
        spread.row.append(found)
        index = index + 1


class Settled:
    """What becomes of a correction: which records are right, stale and half for good."""

    def __init__(self, web, right, stale, half):
        self._tables = web.tables
        self._right = right
        self._stale = stale
        self._half = half

    @property
    def right(self):
        """The Records that are right."""
        return self._right

    @property
    def stale(self):
        """The Records that stay stale."""
        return self._stale

    @property
    def half(self):
        """The Records that stay half."""
        return self._half

    def state(self, table, day):
        """What becomes of a record: "right", "stale", "half", or "clear" if it does not hang."""
        if not is_name(table) or table not in self._tables:
            raise NoTable(table)
        if not is_day(day):
            raise BadDay(day)
        for word, found in (("right", self._right), ("stale", self._stale), ("half", self._half)):
            if (table, day) in found:
                return word
        return "clear"

    def __bool__(self):
        return not self._stale and not self._half
