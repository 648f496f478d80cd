"""What hangs on a record, on what it hangs, and by which way."""
from remadedays.errors import TooMany
from remadedays.lines import MOST_DAYS
from remadedays.rounds import Rounds
from remadedays.spread import Spread
from remadedays.turns import sets_of


def hung(web, table, day):
    """The Records that hang on a record, itself too."""
    web.check_place(table, day)
    return hung_in(Rounds(web), table, day)


def roots(web, table, day):
    """The Records on which a record hangs, itself too."""
    web.check_place(table, day)
    return roots_in(Rounds(web), table, day)


def roots_in(rounds, table, day):
    """The Records on which a record hangs, of a web with these rounds."""
    rest = day % rounds.turn
    return sets_of(Spread(rounds, table, rest, -1), day, rest, 0)[0]


def hung_in(rounds, table, day):
    """The Records that hang on a record of a web with these rounds."""
    rest = day % rounds.turn
    return sets_of(Spread(rounds, table, rest, 1), day, rest, 0)[0]


def way(web, table, day, other, other_day):
    """The least of the shortest rows of records that lead from a record to one that hangs on it; None if none does."""
    web.check_place(table, day)
    web.check_place(other, other_day)
    rounds = Rounds(web)
    if abs(day - other_day) > MOST_DAYS:
        raise TooMany("days", MOST_DAYS)
    start = rounds.index_of(table, day)
    end = rounds.index_of(other, other_day)
    counts = counts_to(rounds, start, end)
    if not counts or counts[-1] is None:
        return None
    indexes = [start]
    while indexes[-1] != end:
        indexes.append(least_user(rounds, counts, indexes[-1], end))
    return tuple([rounds.record_at(index) for index in indexes])


def counts_to(rounds, start, end):
    """For the indexes from end back to start: how many steps it takes at least to come to end; None where none do."""
    counts = []
    for back in range(end - start + 1):
        best = 0 if back == 0 else None
        for step in rounds.to_users[(end - back) % rounds.width]:
            nearer = counts[back - step] if step <= back else None
            if nearer is not None and (best is None or nearer + 1 < best):
                best = nearer + 1
        counts.append(best)
    return counts


def least_user(rounds, counts, index, end):
    """The index of the least record that is made from the one with this index and is one step nearer to the end."""
    back = end - index
    best = None
    for step in rounds.to_users[index % rounds.width]:
        if step <= back and counts[back - step] == counts[back] - 1:
            if best is None or rounds.record_at(index + step) < rounds.record_at(best):
                best = index + step
    return best
