"""Nights that are played one after another, as the document tells rules, keepings and lists."""
from hungmodel import SLACK, reached, users_within
from remadedays.rings import heights
from remadedays.rules import Keeping, Rule
from webmodel import made_from, numbers


def needed_by_looking(web):
    """For each table for how many nights its records are read at least."""
    found, needed = heights(web), {table: 0 for table in web.tables}
    for record in numbers(web):
        for source in made_from(web, record):
            needed[source[0]] = max(needed[source[0]], found.due(*record) - found.due(*source))
    return needed


def some_rule(rng, web, most=9):
    """A drawn rule; what it tells of ground tables and of others means nothing."""
    told = {table: rng.choice([0, 1, 1, 2, 3, rng.randint(0, most), "all"]) for table in web.tables if rng.random() < 0.85}
    return Rule.of({**told, "other": rng.choice([0, 3, "all"])})


def some_keeping(rng, web, most=9):
    """A drawn keeping that is long enough; None at times."""
    if rng.random() < 0.25:
        return None
    needed = needed_by_looking(web)
    told = {table: needed[table] + rng.choice([0, 0, 1, 2, rng.randint(0, most)]) for table in web.tables
            if rng.random() < 0.8}
    return Keeping.of({**told, "other": 0})


class Play:
    """A web's records of some days, from a day on, and the nights behind a correction of one of them."""

    def __init__(self, web, first, end):
        found = heights(web)
        self.web = web
        self.users = users_within(web, first - SLACK, end + SLACK)
        self.due = {record: found.due(*record) for record in self.users}
        self.in_order = sorted(self.users, key=lambda record: found.key(*record))
        self.sources = {record: made_from(web, record) for record in self.users}

    def hung(self, corrected):
        """All records that hang on the corrected one."""
        return reached(self.users, corrected)

    def states(self, rule, keeping, corrected, late, nights):
        """The state of each record that hangs and is due so many nights behind the correction, by then."""
        keeping = keeping or Keeping()
        hangs, night = self.hung(corrected), corrected[1] + late
        states = {record: "stale" for record in hangs if self.due[record] <= night}
        states[corrected] = "right"
        for now in range(night + 1, night + nights + 1):
            made = set()
            for record in self.in_order:
                due = self.due[record]
                if due < now and self.is_again(rule, keeping, record, made, now, {corrected} if now == night + 1 else set()):
                    made.add(record)
                if (due == now or record in made) and record in hangs and record != corrected:
                    states[record] = self.state_of(states, record)
        return states

    def is_again(self, rule, keeping, record, made, now, corrected):
        """Whether a record is made again on a night, ahead of which just these were corrected."""
        table, _ = record
        if not self.web[table]:
            return False
        sources = self.sources[record]
        if rule[table] == "all":
            if not any(source in made or source in corrected for source in sources):
                return False
        elif now > self.due[record] + rule[table]:
            return False
        return all(self.can_be_read(keeping, source, now) for source in sources)

    def can_be_read(self, keeping, source, now):
        """Whether a record can be read on a night. What lies ahead of the played days is kept, or is it not, alike."""
        return keeping[source[0]] == "all" or now <= self.due_of(source) + keeping[source[0]]

    def due_of(self, record):
        """The due night of any record."""
        return self.due[record] if record in self.due else heights(self.web).due(*record)

    def state_of(self, states, record):
        """The state of a record that is made now."""
        kinds = {states[source] for source in self.sources[record] if source in states}
        return kinds.pop() if len(kinds) == 1 else "half"

    def lost(self, rule, keeping, corrected, late):
        """The first record in order that is due when the correction comes, and is not made again on the next night."""
        keeping = keeping or Keeping()
        hangs, now = self.hung(corrected), corrected[1] + late + 1
        for record in self.in_order:
            if record in hangs and record != corrected and self.due[record] < now:
                number = rule[record[0]]
                if number != "all" and now > self.due[record] + number:
                    return record, ("old",)
                gone = [source for source in self.sources[record] if not self.can_be_read(keeping, source, now)]
                if gone:
                    return record, ("gone", min(gone))
        return None
