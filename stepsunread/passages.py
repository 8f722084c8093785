"""How a world goes through a book: what stands behind each event, what is not as noted."""

from stepsunread.machines import Machine
from stepsunread.noted import is_end_as, is_read_as, is_row_as, is_way_as


def come(machine, event, contents):
    """The event comes; contents is what hands are still to write. Whether it is as noted."""
    word, name = event[0], event[1]
    if word == "set":
        content = contents.pop(0)
        machine.put(machine.work.places[name], content)
        return event[2] in (None, content)
    if word == "saw":
        return event[2] in (None, machine.content(name))
    if word == "run":
        way, end = machine.run_whole(name)
        return is_way_as(event[2], way) and is_end_as(event[3], end)
    if word == "begin":
        machine.start(name)
        return True
    if word == "reads":
        return read_parts(machine, name, event[2])
    if word == "end":
        reads, end = machine.finish_run(name)
        return reads == () and is_end_as(event[2], end)
    return break_off(machine, name, event[2])


def read_parts(machine, step, parts):
    """The run reads on as often as there are parts. Whether it is as noted."""
    is_noted = True
    for part in parts:
        read = machine.read_next(step)
        is_noted = is_noted and read is not None and is_read_as(part, read)
    return is_noted


def break_off(machine, step, wrote):
    """The run is broken off behind so many files. Whether it is as noted."""
    if wrote == ():
        machine.leave(step)
        return True
    reads, end = machine.close(step, len(wrote))
    return reads == () and end != "fail" and is_row_as(wrote, end)


class Passage:
    """A world that goes through a book.

    rows: for each log its stands; misfits: the marks of events that are not as noted. Both are told behind go.
    """

    def __init__(self, outline, world):
        self.outline = outline
        self.crew, self.firsts, self.hands, self.weaves = world
        self.rows = None
        self.misfits = None
        # The stand at the end of each log: one for both of a pair.
        self.lasts = None
        # As soon as they are asked for: what the programs do, by steps and ways; answers, by questions.
        self.deeds = None
        self.answers_told = None

    def go(self):
        """Go through all logs, unless that was done; the passage itself."""
        if self.rows is None:
            self.rows = [[] for log in self.outline.book]
            self.misfits = []
            self.lasts = {}
            for numbers in self.outline.groups:
                if len(numbers) == 1:
                    self.go_alone(numbers[0])
                else:
                    self.go_woven(numbers)
        return self

    def machine_at(self, number):
        """The machine at the beginning of the log; its first stands are told."""
        link = self.outline.links[number]
        if link is None:
            stand = self.firsts[number]
            self.rows[number].append(stand)
        else:
            stand = self.lasts[link[1]]
            # One at the beginning, and one behind after or beside.
            self.rows[number] += [stand, stand]
        return Machine(self.outline.work, self.crew, stand)

    def go_alone(self, number):
        """Go through a log that is alone."""
        machine = self.machine_at(number)
        contents = list(self.hands[number])
        row, log = self.rows[number], self.outline.book[number]
        # A log has one stand more than events: so behind its first ones this is the next event.
        for at in range(len(row) - 1, len(log)):
            if not come(machine, log[at], contents):
                self.misfits.append((number, at))
            row.append(machine.stand)
        self.lasts[number] = machine.stand

    def go_woven(self, numbers):
        """Go through a pair of logs, the one that is beside the other behind it."""
        number, beside = numbers
        machine = self.machine_at(number)
        stand = machine.stand
        self.rows[beside] += [stand, stand]
        left = {log: list(self.hands[log]) for log in numbers}
        for item in self.weaves[beside]:
            log = beside if item == 1 else number
            row = self.rows[log]
            at = len(row) - 1
            if not come(machine, self.outline.book[log][at], left[log]):
                self.misfits.append((log, at))
            row.append(machine.stand)
        for log in numbers:
            self.lasts[log] = machine.stand
