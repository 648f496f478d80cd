"""How many records of a set are due by a night, or on it, and in which order they are."""


def tied_sets(web, found):
    """The sets of days of some Records by table, of those tables that have ties and a day."""
    return {table: found[table] for table in found.tables if web[table]}


def count_due(rounds, sets, night):
    """How many records of the sets are due by a night; each set has a least day."""
    surely = night - rounds.slack + 1
    many = 0
    for table, days in sets.items():
        least = days.least
        many = many + days.count(least, surely)
        begin = max(int(least), surely)
        end = night + 1
        many = many + len([day for day in days.within(begin, end) if rounds.due_of(table, day) <= night])
    return many


def counts_on(rounds, sets, night, many):
    """The list of how many records of the sets become due on each of so many nights from one on."""
    counts = [0] * many
    first = night - rounds.slack
    end = night + many
    for table, days in sets.items():
        for day in days.within(first, end):
            at = rounds.due_of(table, day) - night
            if 0 <= at < many:
                counts[at] = counts[at] + 1
    return counts


def records_due(rounds, sets, number, night):
    """The list of those records of the sets that are due in the round with a number, by a night, in their order."""
    first = number * rounds.width
    found = []
    for index in range(first, first + rounds.width):
        table, day = rounds.record_at(index)
        # Days of more digits than a day has are not tested with `in`.
        if rounds.due_at(index) <= night and table in sets and sets[table].count(day, day + 1) == 1:
            found.append((table, day))
    return found


def next_number(rounds, sets, number):
    """The number of the next round, from one on, in which a record of the sets can be due; None if there is none."""
    first = number * rounds.turn - rounds.slack
    nearest = [days.after(first - 1) for days in sets.values()]
    ahead = [int(day) for day in nearest if day is not None]
    if not ahead:
        return None
    return max(int(number), min([int(day) for day in ahead]) // rounds.turn)
