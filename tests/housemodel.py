"""A house whose nights are played one after another, for all of its corrections together."""
from remadedays.rules import Keeping


class Lived:
    """A house over the records of a Play: each night makes what is due and what the rule says, in order."""

    def __init__(self, play, rule, keeping, night):
        self.play = play
        self.rule = rule
        self.keeping = keeping or Keeping()
        self.night = night
        self.corrections = []
        self.hangs = []
        self.states = []
        self.fresh = set()

    def correct(self, record):
        """The record is corrected now: all else that hangs on it and was due is stale."""
        hangs = self.play.hung(record)
        states = {other: "stale" for other in hangs if self.play.due[other] <= self.night}
        states[record] = "right"
        self.corrections.append((*record, self.night))
        self.hangs.append(hangs)
        self.states.append(states)
        self.fresh.add(record)

    def sleep(self, nights=1):
        """So many nights, one after another."""
        for _ in range(nights):
            self.pass_night(self.night + 1)

    def pass_night(self, now):
        """One night: sources first."""
        again = set()
        for record in self.play.in_order:
            due = self.play.due[record]
            if due < now and self.play.is_again(self.rule, self.keeping, record, again, now, self.fresh):
                again.add(record)
            if due == now or record in again:
                for (*corrected, _), hangs, states in zip(self.corrections, self.hangs, self.states):
                    if record in hangs and record != tuple(corrected):
                        states[record] = self.play.state_of(states, record)
        self.fresh = set()
        self.night = now

    def state(self, k, record):
        """The state of a record for the correction with an index."""
        if self.play.due[record] > self.night:
            return "missing"
        return self.states[k].get(record, "clear")

    def wrong(self, table):
        """The days of a table that are due and wrong for some correction, ascending."""
        return tuple(sorted({day for states in self.states for (name, day), word in states.items()
                             if name == table and word in ("stale", "half")}))
