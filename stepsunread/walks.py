"""A log, or a pair of logs, worked out event by event, as far as choices lead.

The content of a file is an integer, or the point at which it is open. A case
(stepsunread/cases.py) tells what is chosen, and gathers which events are wrong.
"""

from stepsunread.barring import ANY, fine_things, only_content, part_at
from stepsunread.halts import Halt
from stepsunread.machines import end_of
from stepsunread.noted import is_end_as, is_row_as, is_way_as


class Walk:
    """How far a group of logs is worked out.

    stand, writers: what stands in each file, and the mark of the event that wrote it last.
    woven: the weaving, of a pair.
    """

    def __init__(self, layout, numbers, stand, writers):
        self.layout = layout
        self.numbers = numbers
        self.stand = stand
        self.writers = writers
        self.first = stand, writers
        # By logs: how many events have come, after and beside among them.
        self.gone = {}
        # (what came ahead, log, stand, writers, (way, end) of a whole run) of the event that came last.
        self.trace = None
        self.woven = ()
        # By steps whose runs are under way: what they read so far.
        self.running = {}
        # The log whose event is coming, how many reads this event has had, its (way, end).
        self.coming = None
        self.done = 0
        self.ran = None
        self.is_over = False
        # The point at which it halts.
        self.halt = None
        # By marks of sets: what hands write in the place of what the book and the choices tell; None if nothing does.
        self.changed = None

    def begin(self):
        """Nothing has come so far but after and beside."""
        for number in self.numbers:
            self.gone[number] = 0 if self.layout.outline.links[number] is None else 1

    def copy(self):
        """A walk that has come as far, and goes on by itself."""
        twin = Walk(self.layout, self.numbers, self.stand, self.writers)
        twin.first = self.first
        twin.gone = dict(self.gone)
        twin.trace = self.trace
        twin.woven = self.woven
        twin.running = dict(self.running)
        twin.coming = self.coming
        twin.done = self.done
        twin.is_over = self.is_over
        twin.halt = self.halt
        return twin

    def row(self, number, moment):
        """(stand, writers) behind so many events of the log, which has come to its end."""
        place, at = self.trace, self.gone[number]
        while place is not None:
            ahead, log, stand, writers, _ = place
            if log == number:
                if at == moment:
                    return stand, writers
                at -= 1
            place = ahead
        return self.first

    def run_at(self, number, event):
        """(way, end) of this whole run of the log, which has come to its end."""
        place, at = self.trace, self.gone[number] - 1
        while place[1] != number or at != event:
            at -= 1 if place[1] == number else 0
            place = place[0]
        return place[4]

    def go(self, case):
        """Come as far as the choices lead."""
        self.halt = None
        gone, book = self.gone, self.layout.book
        try:
            while not self.is_over:
                if self.coming is None:
                    self.coming = self.next_log(case)
                    self.done = 0
                number = self.coming
                if number is None:
                    self.is_over = True
                    return
                at = gone[number]
                self.ran = None
                self.come(case, (number, at), book[number][at])
                self.trace = self.trace, number, self.stand, self.writers, self.ran
                gone[number] = at + 1
                self.coming = None
        except Halt as halt:
            self.halt = halt.point

    def next_log(self, case):
        """The log whose event comes next, None if all have come."""
        number = self.numbers[0]
        if len(self.numbers) == 1:
            return number if self.gone[number] < len(self.layout.book[number]) else None
        beside = self.numbers[1]
        # after and beside apart, as many events of the log beside the other have come as its 1s.
        came = sum(self.woven)
        items = self.layout.turns_open[beside][came, len(self.woven) - came]
        if not items:
            return None
        item = items[0] if len(items) == 1 else case.content(("weave", beside, len(self.woven)))
        self.woven += (item,)
        return beside if item else number

    def is_noted(self, mark):
        """Whether it is asked if the event is as noted."""
        return self.changed is None and mark not in self.layout.left

    def come(self, case, mark, event):
        """The event comes."""
        word, name = event[0], event[1]
        if word == "set":
            told = self.layout.hands[mark]
            if self.changed is not None:
                told = self.changed.get(mark, told)
            self.write_one(self.layout.work.places[name], told, mark)
        elif word == "saw":
            if event[2] is not None and self.is_noted(mark):
                if case.content(self.stand[self.layout.work.places[name]]) != event[2]:
                    case.note_wrong(mark)
        elif word == "begin":
            self.running[name] = ()
        elif word == "run":
            if mark not in self.layout.idle:
                self.come_run(case, mark, event)
        elif word == "reads":
            self.come_reads(case, mark, event)
        else:
            self.come_last(case, mark, event)

    def write_one(self, place, content, mark):
        """The event of this mark writes the content into the file of this number."""
        self.stand = self.stand[:place] + (content,) + self.stand[place + 1:]
        self.writers = self.writers[:place] + (mark,) + self.writers[place + 1:]

    def write(self, places, contents, mark):
        """The event of this mark writes the contents into the files of these numbers."""
        for place, content in zip(places, contents):
            self.write_one(place, content, mark)

    def read(self, case, step, file):
        """The run reads the file: its content."""
        content = case.content(self.stand[self.layout.work.places[file]])
        self.running[step] += ((file, content),)
        return content

    def come_run(self, case, mark, event):
        """A whole run, as far as it can be worked out."""
        _, step, parts, noted = event
        is_noted = self.is_noted(mark)
        way = self.running.setdefault(step, ())
        thing = case.thing(step, way)
        while thing[0] == "read":
            self.read_as_noted(case, mark, step, thing[1], part_at(parts, len(way)) if is_noted else ANY)
            way = self.running[step]
            thing = case.thing(step, way)
        end = end_of(thing)
        if is_noted and not (is_way_as(parts, way) and is_end_as(noted, end)):
            case.note_wrong(mark)
        self.ran = way, end
        self.leave(step, thing, 2, mark)

    def read_as_noted(self, case, mark, step, file, part):
        """The run reads the file; it is wrong if it should not be read, or not with this content."""
        if part is None or part[0] not in (None, file):
            case.note_wrong(mark)
        content = self.read(case, step, file)
        if part is not None and part[1] not in (None, content):
            case.note_wrong(mark)

    def come_reads(self, case, mark, event):
        """A run reads on, as often as there are parts."""
        _, step, parts = event
        is_noted = self.is_noted(mark)
        while self.done < len(parts):
            thing = case.thing(step, self.running[step])
            if thing[0] != "read":
                if is_noted:
                    case.note_wrong(mark)
                return
            self.read_as_noted(case, mark, step, thing[1], parts[self.done] if is_noted else ANY)
            self.done += 1

    def come_last(self, case, mark, event):
        """A run ends, or is broken off."""
        word, step, noted = event
        if word == "break" and noted == ():
            del self.running[step]
            return
        is_noted = self.is_noted(mark)
        thing = case.thing(step, self.running[step])
        while thing[0] == "read":
            # It should have read all.
            if is_noted:
                case.note_wrong(mark)
            self.read(case, step, thing[1])
            thing = case.thing(step, self.running[step])
        end = end_of(thing)
        many = 2
        if word == "end":
            is_so = is_end_as(noted, end)
        else:
            is_so = end != "fail" and is_row_as(noted, end)
            many = len(noted)
        if is_noted and not is_so:
            case.note_wrong(mark)
        self.leave(step, thing, many, mark)

    def leave(self, step, thing, many, mark):
        """The run, which does this at last, writes its first so many files, and is under way no more."""
        del self.running[step]
        if thing[0] == "end":
            self.write(self.layout.work.outs[step][:many], thing[1], mark)

    def barring(self, case, point, things):
        """For each thing that the point at which the walk halts can be: the mark of the event that is wrong then.

        None where that is not to be seen at once.
        """
        number = self.coming
        if number is None:
            # It is open which event comes next.
            return [None] * len(things)
        mark = number, self.gone[number]
        if mark in self.layout.left:
            return [None] * len(things)
        event = self.layout.book[number][mark[1]]
        way = () if event[0] == "saw" else self.running[event[1]]
        if point[0] == "next":
            fine = fine_things(event, way, self.done, things)
            return [None if thing in fine and self.can_read(case, event, thing) else mark for thing in things]
        only = only_content(event, way, self.done)
        return [mark if only not in (None, content) else None for content in things]

    def can_read(self, case, event, thing):
        """Whether the thing is no read, or one of a content with which the event is not wrong at once."""
        if thing[0] != "read":
            return True
        told = self.stand[self.layout.work.places[thing[1]]]
        content = told if isinstance(told, int) else case.chosen.get(told)
        return content is None or only_content(event, self.running[event[1]], self.done) in (None, content)
