"""Whether two webs are alike for all corrections."""
from remadedays.errors import TooMany, Unlike
from remadedays.hung import hung_in
from remadedays.rounds import Rounds

MOST_RECORDS = 120


def parted(one, other):
    """None if the same records hang on each record in both webs; otherwise where they first do not."""
    if not one.cycle == other.cycle:
        raise Unlike("cycle")
    if one.tables != other.tables:
        raise Unlike("tables")
    if len(one.tables) * one.cycle.total > MOST_RECORDS:
        raise TooMany("records", MOST_RECORDS)
    rounds = Rounds(one)
    other_rounds = Rounds(other)
    for table in one.tables:
        for day in range(one.cycle.total):
            hanging = hung_in(rounds, table, day)
            other_hanging = hung_in(other_rounds, table, day)
            for name in one.tables:
                unlike = hanging[name] ^ other_hanging[name]
                if unlike:
                    return ((table, day), (name, unlike.least))
    return None
