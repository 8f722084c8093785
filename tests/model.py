"""Section 15 followed literally: a house, its notes and its knowledge, by all worlds that fit."""

import copy

from tests import acting, slow
from tests.test_mills import Twin


class Wrong(Exception):
    """What the house is to raise: the name of the error and its value."""

    def __init__(self, name, value=None):
        super().__init__(name, value)
        self.name, self.value = name, value


class Model:
    def __init__(self, work, crew, stand, elders=()):
        self.twin = Twin(work, crew, stand)
        self.work, self.elders, self.own, self.made = work, tuple(elders), (), 0
        self.past = []

    def state(self):
        return copy.deepcopy((self.twin.__dict__, self.elders, self.own, self.made))

    def restore(self, state):
        self.twin.__dict__, self.elders, self.own, self.made = copy.deepcopy(state)
        self.work = self.twin.work

    @property
    def book(self):
        return self.elders + (self.own,)

    @property
    def last(self):
        return len(self.elders)

    def world(self):
        """The true world, but for elder logs: what the own logs' hands wrote is what was put."""
        return self.twin.crew

    def survey(self):
        return slow.Survey(self.work, self.book)

    def note(self, *events):
        if len(self.own) + len(events) > 20:
            raise Wrong("Full")
        self.own += events

    def do(self, word, *parts):
        """A deed; Wrong, and all as ahead, if it cannot be done."""
        ahead = self.state()
        try:
            told = getattr(self, "do_" + word)(*parts)
        except Wrong:
            self.restore(ahead)
            raise
        if (self.elders, self.own) != ahead[1:3]:
            self.past.append(ahead)
        return told

    def do_put(self, file, content, is_noted=True):
        self.twin.come("put", file, content)
        self.note(("set", file, content if is_noted else None))

    def do_look(self, file):
        self.note(("saw", file, self.twin.stand[file]))
        return self.twin.stand[file]

    def do_make(self, step):
        told = self.twin.come("make", step)
        self.note(("run", step) + told)
        self.made += 1
        return told

    def do_begin(self, step):
        self.twin.come("begin", step)
        self.note(("begin", step))
        self.made += 1

    def do_read_on(self, step):
        read = self.twin.come("read_on", step)
        if read is not None:
            self.note(("reads", step, (read,)))
        return read

    def do_finish(self, step):
        reads, end = self.twin.come("finish", step)
        self.note(*[("reads", step, reads)] * (reads != ()) + [("end", step, end)])
        return reads, end

    def do_stop(self, step, many):
        reads, contents = self.twin.come("stop", step, many)
        self.note(*[("reads", step, reads)] * (reads != ()) + [("break", step, contents)])
        return reads, contents

    def answers(self, question):
        """The answers, by all worlds that fit."""
        told = [answer for answer, _ in self.survey().shares(question)]
        if not told:
            raise Wrong("Clash")
        return told

    def word(self, step):
        told = self.answers(("fresh", self.last, step))
        return {(True,): "fresh", (False,): "stale"}.get(tuple(told), "open")

    def do_renew(self, most, is_restoring):
        rows = []
        self.check_idle()
        for _ in range(most):
            many = len(rows)
            for step in self.work.steps:
                if self.word(step) == "fresh":
                    continue
                ends = self.answers(("would", self.last, step))
                if is_restoring and len(ends) == 1:
                    for file, content in zip(self.work.writes(step), ends[0]):
                        self.do_put(file, content)
                    rows.append((step, "restored"))
                else:
                    self.do_make(step)
                    rows.append((step, "made"))
            if len(rows) == many:
                break
        self.answers(("rests",))
        return tuple(rows)

    def check_idle(self):
        going = self.twin.told()[1]
        if going:
            raise Wrong("UnderWay", going[0])

    def do_reach(self, plan, prices):
        """The acts of a plan, as outcomes come: the price."""
        self.check_idle()
        paid = 0
        while plan[0] == "act":
            _, act, rows = plan
            paid += acting.cost(self.work, prices, act)
            if act[0] == "look":
                outcome = self.do_look(act[1])
            else:
                for file, content in zip(self.work.sources, act[1] or ()):
                    self.do_put(file, content)
                outcome = self.do_make(act[2])
            self.answers(("rests",))
            plan = dict(rows)[outcome]
        return paid

    def do_join(self, book):
        if len(self.elders) + len(book) > 2:
            raise Wrong("TooMany", 3)
        many = len(self.elders)
        self.elders += tuple(tuple((event[0], event[1] + many) if event[0] in ("after", "beside") else event
                                   for event in log) for log in book)
        self.answers(("rests",))

    def do_blot(self, mark):
        log, at = mark
        event = self.elders[log][at]
        # Where nothing is noted, nothing changes: gaps alone tell nothing.
        if event[0] != "run":
            event = event[:2] + (None,)
        elif event[3] is not None or set(event[2]) != {None}:
            event = event[:2] + ((None,), None)
        row = self.elders[log][:at] + (event,) + self.elders[log][at + 1:]
        self.elders = self.elders[:log] + (row,) + self.elders[log + 1:]

    def do_turn(self):
        if len(self.elders) == 2:
            raise Wrong("TooMany", 3)
        self.check_idle()
        self.elders += (self.own,)
        self.own = (("after", len(self.elders) - 1),)

    def undo(self):
        if not self.past:
            raise Wrong("NothingToUndo")
        self.restore(self.past.pop())
