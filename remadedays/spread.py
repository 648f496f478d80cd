"""What spreads from one record over a sound web, and the sets of days in which it repeats.

Values are integers whose bits tell what a record has; 0 is the value of a record that is not reached.
"""
from remadedays.lines import MOST_DAYS, line_of
from remadedays.masks import mask_of


class Spread:
    """The values of the records from one on in the order of their indexes, or, with the sign -1, from it back.

    Each value is what the values of its sources (with the sign -1: its users) have together. The row of
    the values begins some whole rounds ahead of the record, so that no link goes out of it.
    """

    def __init__(self, rounds, table, day, sign):
        index = rounds.index_of(table, day)
        steps = rounds.to_sources if sign > 0 else rounds.to_users
        width = rounds.width
        pad = (rounds.reach + width - 1) // width * width
        self.rounds = rounds
        self.sign = sign
        self.origin = index - sign * pad
        self.row_steps = [steps[(index + sign * at) % width] for at in range(width)]
        self.row = [0] * pad + [1]

    def index_at(self, at):
        """The index of the record with a place in the row."""
        return self.origin + self.sign * at

    def joined_at(self, at):
        """What the values have together that lead to a place in the row."""
        found = 0
        for step in self.row_steps[at % len(self.row_steps)]:
            found = found | self.row[at - step]
        return found

    def lengthen(self, many):
        """Makes the row so long."""
        short = len(self.row)
        for at in range(short, many):
            self.row.append(self.joined_at(at))

    def find_turns(self, late):
        """After how many rounds the end of the row comes again; None if that is after more than 4,000 days.

        The row is made longer until it is seen, at most so far that no set that may be told, of
        which nights up to so many behind the record's day are unlike, can still be about to repeat.
        """
        rounds = self.rounds
        begin = len(self.row)
        width = rounds.width
        most = (MOST_DAYS + late + rounds.slack) // rounds.turn + 2 * (rounds.reach // width) + 6
        many = begin // width + 4
        while True:
            self.lengthen(min(int(many), most) * width)
            turns = self.turns_back(begin)
            if turns is not None or many >= most:
                return turns
            many = 2 * many

    def turns_back(self, begin):
        """How many rounds ahead the row was as it is at its end; None if it was not, from a beginning on."""
        end = len(self.row)
        reach = self.rounds.reach
        last = self.row[end - reach:]
        for turns in range(1, MOST_DAYS // self.rounds.turn + 1):
            here = end - turns * self.rounds.width
            if here < begin:
                return None
            if self.row[here - reach:here] == last:
                return turns
        return None

    def lines(self, turns, values):
        """For each of some values a dict of the lines of the days that have it, by table.

        The end of the row comes again after so many rounds.
        """
        rounds = self.rounds
        whole = len(self.row) // rounds.width
        # What repeats begins on unlike days: those of the others up to the last of these are told one by one.
        self.lengthen((whole + rounds.slack // rounds.turn + 2) * rounds.width)
        rows = self.rows_of_tables()
        side = (self.sign * rounds.turn, whole - turns, whole)
        return [{table: line_of_rows(rows[table], side, value) for table in rows} for value in values]

    def rows_of_tables(self):
        """For each table, for each rest a pair: the day at which the row begins for it, and its values."""
        width = self.rounds.width
        rows = {}
        for place in range(width):
            table, day = self.rounds.record_at(self.index_at(place))
            rows.setdefault(table, []).append((day, self.row[place::width]))
        return rows


def line_of_rows(rows, side, value):
    """The line of the days with a value, from rows (day, values) of one table, one row for each rest.

    The side is (by, first, end): the values of a row are those of days that go on by so many each, and
    those from first to end - 1 come again and again.
    """
    by, first, end = side
    begins = [day + first * by for day, _ in rows]
    told = [day + at * by for day, values in rows for at, worth in enumerate(values) if worth == value]
    coming = [day + at * by for day, values in rows for at in range(first, end) if values[at] == value]
    period = abs(by) * (end - first)
    pattern = (period, mask_of([day % period for day in coming]))
    if by > 0:
        high = max([int(day) for day in begins])
        low = min([int(day) for day, _ in rows])
        return line_of((1, 0), low, mask_of([day - low for day in told if day < high]), high, pattern)
    low = min([int(day) for day in begins]) + 1
    high = max([int(day) for day, _ in rows]) + 1
    return line_of(pattern, low, mask_of([day - low for day in told if day >= low]), high, (1, 0))
