"""A row of days over which sets of records are compared with what is made from them."""
from remadedays.lines import clipped, stretch
from remadedays.links import begins_of, links_of
from remadedays.masks import full, window


class Sight:
    """All the days that matter for some sets of records, which only repeat ahead of a low and from a high day on.

    Sets are told by masks: for each number of a table and rest the mask of its days; place 0 is the
    first day of the row. Masks are compared on the days that are far enough from both ends for all
    links. A period ahead of low and two from high on are among them: so what holds on them holds on
    all days, and what is let for one record alone is not let for others.
    """

    def __init__(self, web, reach):
        low, high, period = reach
        total = web.cycle.total
        self.links = links_of(web)
        self.begin = begins_of(web.tables, total)
        pad = max([int(abs(days)) for sources in self.links for _, days in sources], default=0)
        self.start = low - period - 2 * pad
        self.span = high + 2 * period + 2 * pad - self.start
        self.inner = full(self.span - 2 * pad) << pad
        self.rest_masks = [window((total, 1 << rest), self.start, self.span) for rest in range(total)]

    def masks(self, lines):
        """The masks of the lines by table."""
        found = []
        for table in self.begin:
            whole = stretch(lines[table], self.start, self.span) if table in lines else 0
            found.extend([whole & mask for mask in self.rest_masks])
        return found

    def users_of(self, masks):
        """The masks of the records that are made from one of these."""
        found = []
        for sources in self.links:
            mask = 0
            for source, days in sources:
                mask = mask | moved_mask(masks[source], -days)
            found.append(mask)
        return found

    def with_record(self, masks, table, day):
        """The masks with one record more, if its day is in the row."""
        found = list(masks)
        if 0 <= day - self.start < self.span:
            at = self.begin[table] + day % len(self.rest_masks)
            found[at] = found[at] | (1 << (day - self.start))
        return found

    def days_behind(self, day):
        """The mask of the days behind a day."""
        return full(self.span) ^ full(clipped(day + 1 - self.start, self.span))

    def are_alike(self, one, other):
        """Whether two lists of masks tell the same records."""
        return all([(mask ^ other[at]) & self.inner == 0 for at, mask in enumerate(one)])

    def are_among(self, one, other):
        """Whether the other masks have each record that these have."""
        return all([mask & ~other[at] & self.inner == 0 for at, mask in enumerate(one)])


def moved_mask(mask, days):
    """The mask with each day moved by so many days; those ahead of the row are left out."""
    return mask << days if days > 0 else mask >> -days
