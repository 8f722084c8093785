"""How a world goes through a book: what stands behind each event, what is not as noted."""

from stepsunread.machines import Machine
from stepsunread.noted import is_end_as, is_read_as, is_row_as, is_way_as


def come(machine, event, contents):
    """The event comes; contents is what hands are still to write. Whether it is as noted."""
    word, name = event[0], event[1]
    if word == "set":
        content = contents.pop(0)
        machine.write((machine.work.places[name],), (content,))
        return event[2] in (None, content)
    if word == "saw":
        return event[2] in (None, machine.content(name))
    if word == "run":
        way, end = machine.run_whole(name)
        return is_way_as(event[2], way) and is_end_as(event[3], end)
    if word == "begin":
        machine.start(name)
        return True
    if word == "reads":
        return read_parts(machine, name, event[2])
    if word == "end":
        reads, end = machine.finish_run(name)
        return reads == () and is_end_as(event[2], end)
    return break_off(machine, name, event[2])


def read_parts(machine, step, parts):
    """The run reads on as often as there are parts. Whether it is as noted."""
    is_noted = True
    for part in parts:
        read = machine.read_next(step)
        is_noted = is_noted and read is not None and is_read_as(part, read)
    return is_noted


def break_off(machine, step, wrote):
    """The run is broken off behind so many files. Whether it is as noted."""
    if wrote == ():
        machine.leave(step)
        return True
    reads, end = machine.close(step, len(wrote))
    return reads == () and end != "fail" and is_row_as(wrote, end)


class Passage:
    """A world that has gone through a book.

    rows: for each log its stands; misfits: the marks of events that are not as noted.
    """

    def __init__(self, outline, world):
        self.outline = outline
        self.crew, self.firsts, self.hands, self.weaves = world
        self.rows = [[] for log in outline.book]
        self.misfits = []
        # The stand at the end of each log: one for both of a pair.
        self.lasts = {}
        for numbers in outline.groups:
            self.go_from(numbers)

    def go_from(self, numbers):
        """Go through the log, or the pair, of these numbers."""
        outline = self.outline
        link = outline.links[numbers[0]]
        stand = self.firsts[numbers[0]] if link is None else self.lasts[link[1]]
        machine = Machine(outline.work, self.crew, stand)
        left = {}
        for log in numbers:
            # One stand at the beginning, and one behind after or beside.
            self.rows[log] = [stand] if outline.links[log] is None else [stand, stand]
            left[log] = list(self.hands[log])
        number, beside = numbers[0], numbers[-1]
        # A log that is alone comes as if it were beside itself.
        many = len(outline.book[number]) + 1 - len(self.rows[number])
        weaving = self.weaves[beside] if len(numbers) > 1 else [1] * many
        for item in weaving:
            log = beside if item == 1 else number
            row = self.rows[log]
            # A log has one stand more than events: so behind its first ones this is the next.
            event = len(row) - 1
            if not come(machine, outline.book[log][event], left[log]):
                self.misfits.append((log, event))
            row.append(machine.stand)
        for log in numbers:
            self.lasts[log] = machine.stand
