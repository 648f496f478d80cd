"""The greatest lateness that a rule stands, and the least rule for a lateness."""
from remadedays.errors import BadNumber
from remadedays.kinds import is_between
from remadedays.limits import checked_limits, kept_for, least_sums
from remadedays.rounds import Rounds
from remadedays.rules import Nights, Rule

MOST_LATE = 3999


def stands(web, rule, keeping=None):
    """The greatest lateness that a rule and a keeping stand, and what goes wrong beyond it."""
    rounds = Rounds(web)
    kept = kept_for(keeping)
    limits = checked_limits(web, rounds, rule, kept)
    ends = first_ends(rounds, limits)
    wrong = [int(ends[place]) for place in ground_places(web, rounds) if ends[place] is not None]
    if not wrong:
        return Stands(None, None)
    late = min([int(end) for end in wrong])
    table, day = first_wrong(web, rounds, ends, late)
    record = first_lost(rounds, limits, (table, day, late))
    return Stands(late - 1, (table, day, late, record, cause_of(web, rounds, rule, kept, record, day + late)))


class Stands:
    """The greatest lateness that is stood, and the first correction beyond it."""

    def __init__(self, nights, beyond):
        self._nights = nights
        self._beyond = beyond

    @property
    def nights(self):
        """The greatest lateness, -1 at least; None if every lateness is stood."""
        return self._nights

    @property
    def beyond(self):
        """The tuple (table, day, late, record, cause) of the first correction beyond; None without any."""
        return self._beyond


def least_rule(web, late):
    """The least rule that stands a lateness, or all if late is None, if every record is kept for ever."""
    if late is not None and not is_between(late, 0, MOST_LATE):
        raise BadNumber(late)
    rounds = Rounds(web)
    starts = [None] * rounds.width
    for place in ground_places(web, rounds):
        starts[place] = 0
    nearest = least_sums(rounds.source_gaps, starts)
    told = {}
    for place, (table, _) in enumerate(rounds.order):
        if web[table] and nearest[place] is not None:
            if late is None:
                told[table] = Nights.ALL
            else:
                told[table] = max(int(late + 1 - nearest[place]), told.get(table, 0))
    return Rule.of(told)


def ground_places(web, rounds):
    """The places in a round of the records of ground tables."""
    return [place for place, (table, _) in enumerate(rounds.order) if not web[table]]


def first_ends(rounds, limits):
    """For each place: with which lateness, from its due night on, the first record that hangs on it is lost.

    None if none is ever lost. A record is lost if it is due, and is not made again on the next night.
    """
    links = [[] for _ in range(rounds.width)]
    for place, gaps in enumerate(rounds.source_gaps):
        for source, gap in gaps:
            links[source].append((place, gap))
    return least_sums(links, limits)


def first_wrong(web, rounds, ends, late):
    """The least record of a ground table, of a day from 0 to P - 1, for which a correction so late loses a record."""
    for table in web.ground:
        for day in range(rounds.turn):
            if ends[rounds.index_of(table, day) % rounds.width] == late:
                return (table, day)
    return None


def first_lost(rounds, limits, correction):
    """The first record, in order, that a correction (table, day, late) loses."""
    table, day, late = correction
    start = rounds.index_of(table, day)
    starts = [None] * rounds.width
    starts[start % rounds.width] = start
    links = [[((at - step) % rounds.width, step) for step in steps] for at, steps in enumerate(rounds.to_sources)]
    best = None
    for place, index in enumerate(least_sums(links, starts)):
        # Later records of a place are made again for longer, so the first one tells.
        if index is not None and limits[place] is not None and rounds.due_at(index) + limits[place] <= day + late:
            best = index if best is None else min(int(index), best)
    return rounds.record_at(best)


def cause_of(web, rounds, rule, keeping, record, night):
    """Why a record is not made again on the night behind a night."""
    table, day = record
    if rule[table] != Nights.ALL and night + 1 > rounds.due_of(table, day) + rule[table]:
        return ("old",)
    for name, at in web.sources(table, day):
        if keeping[name] != Nights.ALL and night + 1 > rounds.due_of(name, at) + keeping[name]:
            return ("gone", (name, at))
    return None
