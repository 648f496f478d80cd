"""A desk: lines that make a web, and ask about it."""
from remadedays.answers import answer_to, changed_by, is_change
from remadedays.cycles import Cycle
from remadedays.orders import read_order
from remadedays.rules import Keeping, Rule
from remadedays.webs import Web

WEEK = 7


class Desk:
    """A web, a rule and a keeping that lines change, one after another."""

    def __init__(self):
        self._now = (Web(Cycle(WEEK)), Rule(), Keeping())
        self._past = ()

    @property
    def web(self):
        """The web."""
        return self._now[0]

    @property
    def rule(self):
        """The rule."""
        return self._now[1]

    @property
    def keeping(self):
        """The keeping."""
        return self._now[2]

    def __len__(self):
        return len(self._past)

    def ask(self, line):
        """Carries out a line, and returns its answer."""
        return self.run(line)[0]

    def __call__(self, line):
        return self.ask(line)

    def run(self, *lines):
        """Carries out some lines, and returns the list of their answers."""
        now = self._now
        past = self._past
        answers = []
        for line in lines:
            now, past, answer = carried_out(now, past, line)
            answers.append(answer)
        # Nothing is changed ahead of the last line, so that an error leaves the desk as it was.
        self._now = now
        self._past = past
        return answers


def carried_out(now, past, line):
    """What a desk has behind a line, what it had ahead of each line that can be taken back, and the answer."""
    first, told = read_order(line)
    if first == "undo":
        if not past:
            return now, past, "nothing"
        return past[-1], past[:-1], "ok"
    if is_change(first):
        return changed_by(now, first, told), (*past, now), "ok"
    return now, past, answer_to(now, first, told)
