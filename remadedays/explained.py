"""Which single corrections explain what was seen."""
from remadedays.days import Days
from remadedays.hung import roots_in
from remadedays.records import Records
from remadedays.rounds import Rounds


def explained(web, changed, unchanged=()):
    """The Records of all ground records on which each of some records hangs, and none of some others."""
    for table, day in [*changed, *unchanged]:
        web.check_place(table, day)
    rounds = Rounds(web)
    found = Records({name: Days.always() for name in web.ground})
    for table, day in changed:
        found = found & ground_roots(web, rounds, table, day)
    for table, day in unchanged:
        found = found - ground_roots(web, rounds, table, day)
    return found


def ground_roots(web, rounds, table, day):
    """The Records of the ground records on which a record hangs."""
    found = roots_in(rounds, table, day)
    return Records({name: found[name] for name in web.ground})
