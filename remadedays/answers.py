"""What each line of the desk does to a web, a rule and a keeping, or tells of them."""
from remadedays.cycles import Cycle
from remadedays.hung import hung, roots
from remadedays.lateness import least_rule, stands
from remadedays.lots import lots
from remadedays.rings import ring
from remadedays.settled import settled
from remadedays.texts import web_text
from remadedays.webs import Web


def with_cycle(now, told):
    """The tables over another cycle."""
    web, rule, keeping = now
    return Web.of(Cycle.of(told), {table: web[table] for table in web.tables}), rule, keeping


def with_table(now, told):
    """Other ties of a table, or a table more."""
    web, rule, keeping = now
    table, ties = told
    return web.put(table, ties), rule, keeping


def without_table(now, told):
    """A table less."""
    web, rule, keeping = now
    return web.without(told[0]), rule, keeping


def with_rule(now, told):
    """Another value of the rule."""
    web, rule, keeping = now
    table, value = told
    return web, rule.put(table, value), keeping


def with_keeping(now, told):
    """Another value of the keeping."""
    web, rule, keeping = now
    table, value = told
    return web, rule, keeping.put(table, value)


def show_answer(now, told):
    """The text of the web."""
    return on_one_line(web_text(now[0]))


def hung_answer(now, told):
    """What hangs on a record."""
    table, day = told
    return on_one_line(str(hung(now[0], table, day)))


def roots_answer(now, told):
    """On what a record hangs."""
    table, day = told
    return on_one_line(str(roots(now[0], table, day)))


def sound_answer(now, told):
    """Whether the web is sound, or a ring."""
    records = ring(now[0])
    if records is None:
        return "sound"
    return " ".join(["ring", *[f"{table} {day}" for table, day in records]])


def settled_answer(now, told):
    """What becomes of a correction."""
    web, rule, keeping = now
    table, day, late = told
    found = settled(web, rule, keeping, table, day, late)
    return on_one_line(f"right {found.right} stale {found.stale} half {found.half}")


def state_answer(now, told):
    """What becomes of one record by a correction."""
    web, rule, keeping = now
    table, day, late, other, other_day = told
    return settled(web, rule, keeping, table, day, late).state(other, other_day)


def stands_answer(now, told):
    """The greatest lateness that is stood."""
    web, rule, keeping = now
    nights = stands(web, rule, keeping).nights
    return "all" if nights is None else str(nights)


def least_answer(now, told):
    """The least rule for a lateness."""
    return str(least_rule(now[0], told[0]))


def lots_answer(now, told):
    """How many nights it takes to catch up."""
    table, day, late, most = told
    nights = lots(now[0], table, day, late, most)
    return "never" if nights is None else str(nights)


def on_one_line(text):
    """A text with its lines side by side."""
    return text.replace("\n", " ; ")


CHANGES = {
    "cycle": with_cycle,
    "table": with_table,
    "drop": without_table,
    "rule": with_rule,
    "keep": with_keeping,
}

ANSWERS = {
    "show": show_answer,
    "hung": hung_answer,
    "roots": roots_answer,
    "sound": sound_answer,
    "settled": settled_answer,
    "state": state_answer,
    "stands": stands_answer,
    "least": least_answer,
    "lots": lots_answer,
}


def is_change(first):
    """Whether lines with this first word change what the desk has."""
    return first in CHANGES


def changed_by(now, first, told):
    """The web, the rule and the keeping behind a line that changes them."""
    change = CHANGES[first]
    return change(now, told)


def answer_to(now, first, told):
    """The answer of a line that only asks."""
    answer = ANSWERS[first]
    return answer(now, told)
