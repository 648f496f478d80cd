"""What becomes of one correction, behind each night."""
from remadedays.settled import STALE, first_nights
from remadedays.spread import Spread

# The states by the values of the records in a Spread.
STATES = ("clear", "right", "stale", "half")


class Course:
    """What becomes of a correction (table, day, night behind which it came).

    Behind the night on which it came all that hangs and was due is stale. Behind a later one all that is
    due has come to its last state: nothing changes it any more.
    """

    def __init__(self, rounds, limits, correction):
        table, day, came = correction
        rest = day % rounds.turn
        # The spread is made as near to day 0 as it can be, for days of many digits.
        self._far = day - rest
        self._table = table
        self._came = came
        self._spread = Spread(rounds, table, rest, 1)
        self._start = len(self._spread.row) - 1
        first_nights(self._spread, limits, came - self._far)

    def state_behind(self, night, table, day):
        """The state behind a night of a record that is due by it."""
        spread = self._spread
        at = spread.rounds.index_of(table, day - self._far) - spread.origin
        if at < self._start:
            return "clear"
        spread.lengthen(at + 1)
        if night == self._came and at > self._start and spread.row[at] != 0:
            return "stale"
        return STATES[spread.row[at]]

    def wrong_behind(self, night, table):
        """The list of the days of a table that are due by a night and stale or half behind it."""
        # Of the corrected table no other record hangs, as it is ground.
        if table == self._table:
            return []
        spread = self._spread
        rounds = spread.rounds
        spread.lengthen(rounds.index_behind(night - self._far) - spread.origin)
        least = 1 if night == self._came else STALE
        found = []
        for near, values in spread.rows_of_tables()[table]:
            day = near + self._far
            due = (night - rounds.due_of(table, day)) // rounds.turn + 1
            found.extend([day + at * rounds.turn for at, value in enumerate(values[:due]) if value >= least])
        return found
