"""For how many nights each record of a web can be made again, under a rule and a keeping."""
from remadedays.errors import TooShort
from remadedays.rules import Keeping, Nights


def check_keeping(web, rounds, keeping):
    """Refuses a keeping by which a first making can lack a record."""
    needed = nights_needed(rounds)
    for table in web.tables:
        if table in needed and keeping[table] != Nights.ALL and keeping[table] < needed[table]:
            raise TooShort(table)


def kept_for(keeping):
    """The keeping that is meant by one, or by None."""
    return Keeping() if keeping is None else keeping


def checked_limits(web, rounds, rule, keeping):
    """The limits of a web's records, as limits_of; refuses a keeping that is too short."""
    check_keeping(web, rounds, keeping)
    return limits_of(web, rounds, rule, keeping)


def nights_needed(rounds):
    """For each table with users for how many nights its records are read for first makings."""
    needed = {}
    for gaps in rounds.source_gaps:
        for source, gap in gaps:
            table = rounds.order[source][0]
            needed[table] = max(int(gap), needed.get(table, 0))
    return needed


def limits_of(web, rounds, rule, keeping):
    """For each place in a round: for how many nights behind its due night a record is made again if its sources are.

    None stands for all nights, and for the records of ground tables, which are not made.
    """
    limits = []
    for place, (table, _) in enumerate(rounds.order):
        if web[table]:
            ends = [rule[table]]
            for source, gap in rounds.source_gaps[place]:
                kept = keeping[rounds.order[source][0]]
                ends.append(kept if kept == Nights.ALL else kept - gap)
            limits.append(least_end(ends))
        else:
            limits.append(None)
    return limits


def least_end(ends):
    """The least of some numbers of nights; None if all of them are "all"."""
    numbers = [int(end) for end in ends if end != Nights.ALL]
    if not numbers:
        return None
    return min([int(number) for number in numbers])


def least_sums(links, worths):
    """The least worths that are at most those given, and at most that of each link and its step together.

    A link of an index is a pair (index, step), with a step from 0 on. None is above all numbers.
    """
    found = list(worths)
    falling = True
    while falling:
        falling = False
        for at, sources in enumerate(links):
            for source, step in sources:
                worth = found[source]
                if worth is not None and (found[at] is None or worth + step < found[at]):
                    found[at] = worth + step
                    falling = True
    return found
