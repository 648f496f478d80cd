"""How many nights it takes to catch up by a list, if only so many records can be made again a night."""
from math import lcm

from remadedays.dues import count_due, counts_on, tied_sets
from remadedays.errors import BadNumber
from remadedays.hung import hung_in
from remadedays.kinds import BEYOND, is_between
from remadedays.rounds import Rounds


def lots(web, table, day, late, most):
    """How many nights it takes until the list of a correction is empty; None if it never is."""
    web.check_ground(table, day)
    check_numbers(((late, 0), (most, 1)))
    rounds = Rounds(web)
    sets = tied_sets(web, hung_in(rounds, table, day))
    return nights_until_empty(rounds, sets, day + late, most)


def listed(web, table, day, late, most, nights):
    """How many records are on the list of a correction behind so many nights."""
    web.check_ground(table, day)
    check_numbers(((late, 0), (most, 1), (nights, 0)))
    rounds = Rounds(web)
    sets = tied_sets(web, hung_in(rounds, table, day))
    ended = nights_until_empty(rounds, sets, day + late, most)
    if ended is not None and nights >= ended:
        return 0
    return count_due(rounds, sets, day + late + nights) - most * nights


def check_numbers(told):
    """Refuses the first of some pairs (value, least) whose value is no number from the least on."""
    for value, least in told:
        if not is_between(value, least, BEYOND - 1):
            raise BadNumber(value)


def nights_until_empty(rounds, sets, night, most):
    """After how many nights the list is empty that begins behind a night; None if it never is."""
    left = count_due(rounds, sets, night)
    if left == 0:
        return 0
    period, unlike = unlike_nights(rounds, sets, night)
    counts = counts_on(rounds, sets, night + 1, unlike + period)
    for at in range(unlike):
        if left <= most:
            return at + 1
        left = left - most + counts[at]
    return nights_in_turns(left, most, counts[unlike:], unlike)


def unlike_nights(rounds, sets, night):
    """With which period as many records become due again, and from how many nights behind a night on surely."""
    period = rounds.turn
    unlike = 0
    for days in sets.values():
        period = lcm(period, days.right_period)
        unlike = max(int(days.parts[3] + rounds.slack - night), unlike)
    return period, unlike


def nights_in_turns(left, most, counts, nights):
    """After how many nights a list is empty that has so many left after some nights, and grows by turns of counts."""
    lows = []
    for count in counts:
        if left <= most:
            return nights + len(lows) + 1
        left = left - most
        lows.append(left)
        left = left + count
    # What is on the list ahead of the new ones falls by as much in each turn.
    fall = most * len(counts) - sum(counts)
    if fall <= 0:
        return None
    ends = [at + 1 + (low + fall - 1) // fall * len(counts) for at, low in enumerate(lows)]
    return nights + min([int(end) for end in ends])
