"""Sets of days told twice: as Days, and as a test of single days, from which all else is found by looking."""
from remadedays.days import Days

# All periods of the random sets divide this one.
PERIOD = 12
PERIODS = (1, 2, 3, 4, 6, 12)
# The random sets are irregular at most so far from their middle.
REACH = 14


def piece(rng, base):
    """A simple set near a day: the Days, and the test of a day."""
    kind = rng.randrange(6)
    if kind == 0:
        days = [base + rng.randint(-8, 8) for _ in range(rng.randint(0, 6))]
        return Days.of(days), lambda day: day in days
    if kind == 1:
        start = base + rng.randint(-8, 8)
        return Days.from_day(start), lambda day: day >= start
    if kind == 2:
        end = base + rng.randint(-8, 8)
        return Days.until(end), lambda day: day <= end
    if kind == 3 and rng.random() < 0.3:
        return (Days.none(), lambda day: False) if rng.random() < 0.5 else (Days.always(), lambda day: True)
    period = rng.choice(PERIODS)
    rests = [rng.randint(-20, 20) for _ in range(rng.randint(0, 4))]
    places = {rest % period for rest in rests}
    return Days.every(period, *rests), lambda day: day % period in places


def mix(rng, one, other):
    """Two sets joined by some sign."""
    (a, in_a), (b, in_b) = one, other
    kind = rng.randrange(5)
    if kind == 0:
        return a & b, lambda day: in_a(day) and in_b(day)
    if kind == 1:
        return a | b, lambda day: in_a(day) or in_b(day)
    if kind == 2:
        return a ^ b, lambda day: in_a(day) != in_b(day)
    if kind == 3:
        return a - b, lambda day: in_a(day) and not in_b(day)
    return ~a, lambda day: not in_a(day)


def some_set(rng, base):
    """A random set: the Days, and the test of a day."""
    found = piece(rng, base)
    for _ in range(rng.randint(0, 4)):
        found = mix(rng, found, piece(rng, base))
    return found


def span(base, more=0):
    """The days about a base that hold all middles, and some turns of both sides."""
    return range(base - REACH - 2 * PERIOD - more, base + REACH + 2 * PERIOD + more)


def parts_by_looking(has, base):
    """The parts of a set, found by asking for single days."""
    begin, end = base - REACH, base + REACH
    left = side_by_looking(has, begin - 2 * PERIOD)
    right = side_by_looking(has, end + PERIOD)
    low = begin - PERIOD
    while has(low) == (low % left[0] in left[1]):
        low += 1
        if low > end + 2 * PERIOD:
            return (left, None, (), None, left)
    high = end + 3 * PERIOD
    while high > low and has(high - 1) == ((high - 1) % right[0] in right[1]):
        high -= 1
    return (left, low, tuple(day for day in range(low, high) if has(day)), high, right)


def side_by_looking(has, day):
    """The least period of a set about a day where it is periodic, and its rests."""
    for period in PERIODS:
        if all(has(day + k) == has(day + k % period) for k in range(PERIOD)):
            return (period, tuple(sorted((day + k) % period for k in range(period) if has(day + k))))
    raise AssertionError("not periodic")


def text_by_looking(parts):
    """The text of the set with these parts."""
    left, low, middle, high, right = parts
    words = []
    if low is None:
        return " ".join(map(str, ["every", left[0], *left[1]])) if left[1] else "none"
    if left[1]:
        words += ["left", left[0], *left[1], "until", low - 1]
    if middle:
        words += ["days", *middle]
    if right[1]:
        words += ["right", right[0], *right[1], "from", high]
    return " ".join(map(str, words))
