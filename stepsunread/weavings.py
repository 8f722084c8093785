"""Weavings: how the events of two logs of a pair can come.

The logs are told here by their events but for after and beside. A weaving is
a tuple with 1 for each event of the one log, and 0 for each of the other.
"""

from stepsunread.forms import is_below

STARTS = ("run", "begin")
STOPS = ("end", "break")


def steps_under_way(events):
    """The tuples of steps whose runs are under way behind no event, one event, and so on."""
    running = []
    rows = [()]
    for event in events:
        if event[0] == "begin":
            running.append(event[1])
        elif event[0] in STOPS:
            running.remove(event[1])
        rows.append(tuple(running))
    return rows


def can_come(event, running):
    """Whether the event can come while the other log has runs of these steps under way."""
    return event[0] not in STARTS or event[1] not in running


class Weaver:
    """Tells in which sequences the events of two logs can come."""

    def __init__(self, one, other):
        self.one = one
        self.other = other
        self.one_running = steps_under_way(one)
        self.other_running = steps_under_way(other)

    def can_step(self, at, beside):
        """Whether the next event of the one log can come behind so many of both."""
        return at < len(self.one) and can_come(self.one[at], self.other_running[beside])

    def can_step_beside(self, at, beside):
        """Whether the next event of the other log can come behind so many of both."""
        return beside < len(self.other) and can_come(self.other[beside], self.one_running[at])

    def open_places(self):
        """For each (events of the one, of the other): whether all others can come behind them."""
        table = {}
        for at in range(len(self.one), -1, -1):
            for beside in range(len(self.other), -1, -1):
                is_end = at == len(self.one) and beside == len(self.other)
                goes_on = self.can_step(at, beside) and table[at + 1, beside]
                goes_beside = self.can_step_beside(at, beside) and table[at, beside + 1]
                table[at, beside] = is_end or goes_on or goes_beside
        return table

    def turns(self):
        """For each (events of the one, of the other): what can come next, 0 or 1, so that all others can come."""
        table = self.open_places()
        rows = {}
        for at, beside in table:
            goes_beside = self.can_step_beside(at, beside) and table[at, beside + 1]
            goes_on = self.can_step(at, beside) and table[at + 1, beside]
            rows[at, beside] = ((0,) if goes_beside else ()) + ((1,) if goes_on else ())
        return rows

    def is_weaving(self, value):
        """Whether the value is a weaving of all events of both."""
        if not isinstance(value, tuple) or not all([is_below(item, 2) for item in value]):
            return False
        at = beside = 0
        for item in value:
            if not (self.can_step(at, beside) if item == 1 else self.can_step_beside(at, beside)):
                return False
            at += item
            beside += 1 - item
        return at == len(self.one) and beside == len(self.other)


def has_weaving(one, other):
    """Whether the events of both logs have any weaving."""
    started = [event[1] for event in one if event[0] in STARTS]
    if not any([event[0] in STARTS and event[1] in started for event in other]):
        return True
    return Weaver(one, other).open_places()[0, 0]
