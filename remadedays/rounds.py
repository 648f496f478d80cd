"""The records of a sound web in their order, numbered by indexes."""
from remadedays.links import begins_of
from remadedays.rings import heights

# The parts of the keys of one round are far nearer to 0 than this.
WIDE = 1 << 40


class Rounds:
    """The records of a sound web, numbered in the order in which the nights make them first.

    A round is P nights; on these N records become due, one for each table and rest. The record with
    the index i + N is the one with the index i, P days later; index 0 is the first one that is due
    on night 0 or later. So how many indexes lie between a record and its sources, or its users, hangs
    on its place in the round alone. Any integers will do for days and indexes.
    """

    def __init__(self, web):
        found = heights(web)
        self.turn = web.cycle.total
        self.begin = begins_of(web.tables, self.turn)
        self.delays = [found.due(table, rest) - rest for table in web.tables for rest in range(self.turn)]
        self.slack = max([int(delay) for delay in self.delays], default=0)
        self.order = first_round(web, found)
        self.width = len(self.order)
        self.dues = [found.due(table, day) for table, day in self.order]
        self.places = places_in(self.order, self.begin, self.turn)
        self.to_sources = self.steps_to_sources(web)
        self.to_users = turned_about(self.to_sources)
        self.source_gaps = [self.gaps_at(place) for place in range(self.width)]
        self.reach = max([int(step) for steps in self.to_sources for step in steps], default=0)

    def steps_to_sources(self, web):
        """For each place in a round how many indexes ahead of it its sources are."""
        found = []
        for place, (table, day) in enumerate(self.order):
            found.append([place - self.index_of(name, at) for name, at in web.sources(table, day)])
        return found

    def due_of(self, table, day):
        """The due night of a record."""
        return day + self.delays[self.begin[table] + day % self.turn]

    def index_of(self, table, day):
        """The index of a record."""
        place = self.places[self.begin[table] + day % self.turn]
        return self.due_of(table, day) // self.turn * self.width + place

    def record_at(self, index):
        """The record with an index."""
        table, day = self.order[index % self.width]
        return (table, day + index // self.width * self.turn)

    def due_at(self, index):
        """The due night of the record with an index."""
        return self.dues[index % self.width] + index // self.width * self.turn

    def index_behind(self, night):
        """The index of the first record that is due behind a night."""
        rest = night % self.turn
        return night // self.turn * self.width + len([due for due in self.dues if due <= rest])

    def gaps_at(self, place):
        """For each source of a place in a round the pair of its place and of how many nights earlier it is due."""
        due = self.dues[place]
        return [((place - step) % self.width, due - self.due_at(place - step)) for step in self.to_sources[place]]


def first_round(web, found):
    """The list of the records that are due on the nights 0 to P - 1, in their order."""
    total = web.cycle.total
    records = {}
    for table in web.tables:
        for rest in range(total):
            day = rest - found.due(table, rest) // total * total
            due, worth = found.key(table, day)[:2]
            code = ((due * WIDE + worth) * WIDE + web.tables.index(table)) * WIDE + day
            records[code] = (table, day)
    return [records[at] for at in sorted([int(key) for key in records])]


def places_in(order, begin, total):
    """The list of the places in a round, by the numbers of the tables and rests."""
    found = [0] * len(order)
    for place, (table, day) in enumerate(order):
        found[begin[table] + day % total] = place
    return found


def turned_about(steps):
    """From the steps back to the sources, by places, those on to the users."""
    found = [[] for _ in steps]
    for place, backs in enumerate(steps):
        for back in backs:
            found[(place - back) % len(steps)].append(back)
    return found
