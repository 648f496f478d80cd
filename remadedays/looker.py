"""Lookers: whether papers tell what they say. They add and compare, and search nothing."""
from remadedays.lines import is_on_line, line_of_days
from remadedays.limits import checked_limits, kept_for
from remadedays.rings import heights
from remadedays.rounds import Rounds
from remadedays.rowpapers import are_heights, are_made_in_turn, are_records, is_ring
from remadedays.setpapers import goes_left, lines_of_records, lines_of_sets, reach_of, told_behind
from remadedays.settled import check_correction
from remadedays.sights import Sight


def shows_hung(web, table, day, paper):
    """Whether a paper tells just the records that hang on a record."""
    web.check_place(table, day)
    # This refuses webs that are not sound.
    heights(web)
    told = told_behind(paper, "hung", 1)
    lines = None if told is None else lines_of_records(web, told[0])
    if lines is None or goes_left(lines) or not has_record(lines, table, day):
        return False
    reach = reach_of(web.cycle.total, list(lines.values()), day)
    if reach is None:
        return False
    sight = Sight(web, reach)
    masks = sight.masks(lines)
    # In a sound web only what hangs is made from itself, down to the one record that need not be made.
    return sight.are_alike(masks, sight.with_record(sight.users_of(masks), table, day))


def shows_way(web, table, day, other, other_day, paper):
    """Whether a paper tells a way from a record to another one, or that the other one does not hang on it."""
    web.check_place(table, day)
    web.check_place(other, other_day)
    heights(web)
    told = told_behind(paper, "way", 1)
    if told is not None:
        return is_way(web, told[0], (table, day), (other, other_day))
    told = told_behind(paper, "apart", 1)
    lines = None if told is None else lines_of_records(web, told[0])
    if lines is None or not has_record(lines, table, day) or has_record(lines, other, other_day):
        return False
    return is_closed(web, lines, day)


def shows_sound(web, paper):
    """Whether a paper tells a ring of a web, or heights of it."""
    told = told_behind(paper, "ring", 1)
    if told is not None:
        return is_ring(web, told[0])
    told = told_behind(paper, "heights", 1)
    return told is not None and are_heights(web, told[0])


def shows_settled(web, rule, keeping, table, day, late, paper):
    """Whether a paper tells just what becomes of a correction."""
    check_correction(web, table, day, late)
    rounds = Rounds(web)
    limits = checked_limits(web, rounds, rule, kept_for(keeping))
    told = told_behind(paper, "settled", 3)
    sets = None if told is None else lines_of_sets(web, told)
    if sets is None or any([goes_left(lines) for lines in sets]):
        return False
    # No other record of the ground table hangs. So what the sets tell begins no later than on this day.
    if sets[0].get(table) != line_of_days([day]):
        return False
    reach = reach_of(web.cycle.total, [line for lines in sets for line in lines.values()], day)
    if reach is None:
        return False
    low, high, period = reach
    # Up to the night of the correction the states do not repeat.
    sight = Sight(web, (low, max(int(high), day + late + 1), period))
    masks = [sight.masks(lines) for lines in sets]
    made = made_behind(sight, rounds, limits, day + late)
    wanted = states_of([sight.users_of(some) for some in masks], made)
    wanted[0] = sight.with_record(wanted[0], table, day)
    return all([sight.are_alike(masks[at], wanted[at]) for at in range(3)])


def has_record(lines, table, day):
    """Whether lines by table have a record."""
    return table in lines and is_on_line(lines[table], day)


def is_way(web, records, first, last):
    """Whether a value is a row of records from the first to the last one, each made from the one ahead."""
    if not are_records(web, records, 1) or records[0] != first or records[-1] != last:
        return False
    return are_made_in_turn(web, records[::-1])


def is_closed(web, lines, day):
    """Whether lines by table have, with each record, all that are made from it. One of them has this day."""
    reach = reach_of(web.cycle.total, list(lines.values()), day)
    if reach is None:
        return False
    sight = Sight(web, reach)
    masks = sight.masks(lines)
    return sight.are_among(sight.users_of(masks), masks)


def made_behind(sight, rounds, limits, night):
    """For each number the mask of the days whose records are made behind the night of a correction, again or first."""
    found = []
    for number, delay in enumerate(rounds.delays):
        limit = limits[rounds.places[number]]
        found.append(sight.days_behind(sight.start - 1 if limit is None else night - delay - limit))
    return found


def states_of(users, made):
    """The masks of what is right, stale and half by what it is made from: that is right, stale or half."""
    rights = []
    stales = []
    halves = []
    for at, mask in enumerate(made):
        right = users[0][at]
        stale = users[1][at]
        half = users[2][at]
        rights.append(mask & right & ~stale & ~half)
        stales.append((mask & stale & ~right & ~half) | ((right | stale | half) & ~mask))
        halves.append(mask & (half | (right & stale)))
    return [rights, stales, halves]
