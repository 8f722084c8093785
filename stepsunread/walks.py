"""A log, or a pair of logs, worked out event by event, as far as choices lead.

The content of a file is an integer, or the point at which it is open. A case
(stepsunread/cases.py) tells what is chosen, and gathers which events are wrong.
"""

from stepsunread.events import body_of
from stepsunread.halts import Halt
from stepsunread.machines import end_of, written
from stepsunread.noted import is_end_as, is_row_as, is_way_as


# A part of reads that any read is as.
ANY = (None, None)


def part_at(parts, place):
    """What the reads of a run tell of the read at this place: None if there is none, anything from the first gap on."""
    if None in parts[:place + 1]:
        return ANY
    return parts[place] if place < len(parts) else None


class Walk:
    """How far a group of logs is worked out.

    stand, writers: what stands in each file, and the mark of the event that wrote it last.
    rows: for each log (stand, writers) at its beginning and behind each event.
    runs: by marks of whole runs their (way, end). woven: the weaving, of a pair.
    """

    def __init__(self, layout, numbers, stand, writers):
        self.layout = layout
        self.numbers = numbers
        self.stand = stand
        self.writers = writers
        self.rows = {}
        self.runs = {}
        self.woven = ()
        # By steps whose runs are under way: what they read so far.
        self.running = {}
        # The log whose event is coming, and how many reads this event has had.
        self.coming = None
        self.done = 0
        self.is_over = False
        # The point at which it halts.
        self.halt = None
        # By marks of sets: what hands write in the place of what the book and the choices tell.
        self.changed = {}
        # Whether it is asked if events are as noted.
        self.is_asking = True

    def begin(self):
        """Nothing has come so far but after and beside."""
        for number in self.numbers:
            log = self.layout.book[number]
            self.rows[number] = [(self.stand, self.writers)] * (len(log) - len(body_of(log)) + 1)

    def copy(self):
        """A walk that has come as far, and goes on by itself."""
        twin = Walk(self.layout, self.numbers, self.stand, self.writers)
        twin.rows = {number: list(self.rows[number]) for number in self.numbers}
        twin.runs = {mark: self.runs[mark] for mark in self.runs}
        twin.woven = self.woven
        twin.running = {step: self.running[step] for step in self.running}
        twin.coming = self.coming
        twin.done = self.done
        twin.is_over = self.is_over
        twin.halt = self.halt
        return twin

    def go(self, case):
        """Come as far as the choices lead."""
        self.halt = None
        try:
            while not self.is_over:
                self.go_on(case)
        except Halt as halt:
            self.halt = halt.point

    def go_on(self, case):
        """The next event comes, or all have come."""
        if self.coming is None:
            self.coming = self.next_log(case)
            self.done = 0
        number = self.coming
        if number is None:
            self.is_over = True
            return
        at = len(self.rows[number]) - 1
        self.come(case, (number, at), self.layout.book[number][at])
        self.rows[number].append((self.stand, self.writers))
        self.coming = None

    def left_of(self, number):
        """How many events of the log are still to come."""
        return len(self.layout.book[number]) - len(self.rows[number]) + 1

    def next_log(self, case):
        """The log whose event comes next, None if all have come."""
        if len(self.numbers) == 1:
            return self.numbers[0] if self.left_of(self.numbers[0]) else None
        number, beside = self.numbers
        # after and beside apart, as many events of the log beside the other have come as its 1s.
        came = sum(self.woven)
        items = self.layout.turns_open[beside][came, len(self.woven) - came]
        if not items:
            return None
        item = items[0] if len(items) == 1 else case.content(("weave", beside, len(self.woven)))
        self.woven += (item,)
        return beside if item else number

    def place(self, file):
        """The number of the file."""
        return self.layout.work.files.index(file)

    def is_noted(self, mark):
        """Whether it is asked if the event is as noted."""
        return self.is_asking and mark not in self.layout.left

    def come(self, case, mark, event):
        """The event comes."""
        word, name = event[0], event[1]
        if word == "set":
            self.write((name,), (self.changed.get(mark, self.layout.hands[mark]),), mark)
        elif word == "saw":
            if event[2] is not None and self.is_noted(mark):
                if case.content(self.stand[self.place(name)]) != event[2]:
                    case.note_wrong(mark)
        elif word == "begin":
            self.running[name] = ()
        elif word == "run":
            self.come_run(case, mark, event)
        elif word == "reads":
            self.come_reads(case, mark, event)
        else:
            self.come_last(case, mark, event)

    def write(self, files, contents, mark):
        """The event of this mark writes the contents into the files."""
        work = self.layout.work
        self.stand = written(work, self.stand, files, contents)
        self.writers = written(work, self.writers, files, [mark] * len(contents))

    def read(self, case, step, file):
        """The run reads the file: its content."""
        content = case.content(self.stand[self.place(file)])
        self.running[step] += ((file, content),)
        return content

    def come_run(self, case, mark, event):
        """A whole run, as far as it can be worked out."""
        _, step, parts, noted = event
        is_noted = self.is_noted(mark)
        way = self.running.setdefault(step, ())
        thing = case.thing(step, way)
        while thing[0] == "read":
            self.read_as_noted(case, mark, step, thing[1], part_at(parts, len(way)) if is_noted else ANY)
            way = self.running[step]
            thing = case.thing(step, way)
        end = end_of(thing)
        if is_noted and not (is_way_as(parts, way) and is_end_as(noted, end)):
            case.note_wrong(mark)
        self.runs[mark] = way, end
        self.leave(step, thing, len(self.layout.work.writes(step)), mark)

    def read_as_noted(self, case, mark, step, file, part):
        """The run reads the file; it is wrong if it should not be read, or not with this content."""
        if part is None or part[0] not in (None, file):
            case.note_wrong(mark)
        content = self.read(case, step, file)
        if part is not None and part[1] not in (None, content):
            case.note_wrong(mark)

    def come_reads(self, case, mark, event):
        """A run reads on, as often as there are parts."""
        _, step, parts = event
        is_noted = self.is_noted(mark)
        while self.done < len(parts):
            thing = case.thing(step, self.running[step])
            if thing[0] != "read":
                if is_noted:
                    case.note_wrong(mark)
                return
            self.read_as_noted(case, mark, step, thing[1], parts[self.done] if is_noted else ANY)
            self.done += 1

    def come_last(self, case, mark, event):
        """A run ends, or is broken off."""
        word, step, noted = event
        if word == "break" and noted == ():
            del self.running[step]
            return
        is_noted = self.is_noted(mark)
        thing = case.thing(step, self.running[step])
        while thing[0] == "read":
            # It should have read all.
            if is_noted:
                case.note_wrong(mark)
            self.read(case, step, thing[1])
            thing = case.thing(step, self.running[step])
        end = end_of(thing)
        if word == "end":
            is_so = is_end_as(noted, end)
            many = len(self.layout.work.writes(step))
        else:
            is_so = end != "fail" and is_row_as(noted, end)
            many = len(noted)
        if is_noted and not is_so:
            case.note_wrong(mark)
        self.leave(step, thing, many, mark)

    def leave(self, step, thing, many, mark):
        """The run, which does this at last, writes its first so many files, and is under way no more."""
        del self.running[step]
        if thing[0] == "end":
            self.write(self.layout.work.writes(step)[:many], thing[1][:many], mark)
