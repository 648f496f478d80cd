"""What must be made again behind a night for corrections."""
from remadedays.dues import count_due, next_number, records_due, tied_sets
from remadedays.errors import BadDay
from remadedays.hung import hung_in
from remadedays.kinds import is_day
from remadedays.records import Records
from remadedays.rounds import Rounds


def again(web, records, night):
    """The records with ties that hang on one of the corrected ones and are due by the night, in their order."""
    check_corrections(web, records, night)
    rounds = Rounds(web)
    sets = tied_sets(web, hung_on_any(rounds, records))
    number = first_number(rounds, sets)
    while number is not None and number * rounds.turn <= night:
        due = records_due(rounds, sets, number, night)
        for record in due:
            yield record
        number = next_number(rounds, sets, number + 1)


def again_count(web, records, night):
    """How many records must be made again."""
    check_corrections(web, records, night)
    rounds = Rounds(web)
    return count_due(rounds, tied_sets(web, hung_on_any(rounds, records)), night)


def check_corrections(web, records, night):
    """Refuses what is no record of a ground table, and then what is no day."""
    for table, day in records:
        web.check_ground(table, day)
    if not is_day(night):
        raise BadDay(night)


def hung_on_any(rounds, records):
    """The Records of what hangs on one of some records."""
    found = Records({})
    for table, day in records:
        found = found | hung_in(rounds, table, day)
    return found


def first_number(rounds, sets):
    """The number of the first round in which a record of the sets can be due; None if they have none."""
    if not sets:
        return None
    return min([int(days.least) for days in sets.values()]) // rounds.turn
