"""What a house has at one time: its mill, and what is noted."""

from stepsunread.errors import BadTruth, Full, NoFile, UnderWay
from stepsunread.books import MOST_EVENTS


def check_truth(value):
    """BadTruth."""
    if not isinstance(value, bool):
        raise BadTruth(value)


class Record:
    """A mill, the elder logs, the own log, and how many runs were begun.

    Deeds are done on a copy, which takes the place of the record when all is
    done: so nothing has come if something is raised.
    """

    def __init__(self, mill, elders, own, made):
        self.mill = mill
        self.elders = elders
        self.own = own
        self.made = made

    def copy(self):
        """An equal record that goes on by itself."""
        return Record(self.mill.copy(), self.elders, self.own, self.made)

    def logs(self):
        """All logs, the own one last."""
        return self.elders + (self.own,)

    def own_number(self):
        """The number of the own log."""
        return len(self.elders)

    def note(self, event):
        """The event is noted: Full."""
        if len(self.own) == MOST_EVENTS:
            raise Full(None)
        self.own += (event,)

    def check_all_idle(self):
        """UnderWay with the first step of which a run is under way."""
        if self.mill.under_way:
            raise UnderWay(self.mill.under_way[0])

    def put(self, file, content, is_noted):
        """A hand writes: NoFile, BadContent, BadTruth, Full."""
        self.mill.put(file, content)
        check_truth(is_noted)
        self.note(("set", file, content if is_noted else None))

    def look(self, file):
        """The content of the file: NoFile, Full."""
        files = self.mill.work.files
        if file not in files:
            raise NoFile(file)
        content = self.mill.stand[files.index(file)]
        self.note(("saw", file, content))
        return content

    def make(self, step):
        """A whole run: (way, end): NoStep, UnderWay, Full."""
        way, end = self.mill.make(step)
        self.made += 1
        self.note(("run", step, way, end))
        return way, end

    def begin(self, step):
        """A run begins: NoStep, UnderWay, Full."""
        self.mill.begin(step)
        self.made += 1
        self.note(("begin", step))

    def read_on(self, step):
        """A run reads on: (file, content), None if it has read all: NoStep, NotUnderWay, Full."""
        read = self.mill.read_on(step)
        if read is not None:
            self.note_reads(step, (read,))
        return read

    def finish(self, step):
        """A run ends: (reads, end): NoStep, NotUnderWay, Full."""
        reads, end = self.mill.finish(step)
        self.note_reads(step, reads)
        self.note(("end", step, end))
        return reads, end

    def stop(self, step, many):
        """A run is broken off behind so many files: (reads, contents): NoStep, NotUnderWay, BadCount, Full."""
        reads, contents = self.mill.stop(step, many)
        self.note_reads(step, reads)
        self.note(("break", step, contents))
        return reads, contents

    def note_reads(self, step, reads):
        """What a run read is noted, if that is anything."""
        if reads:
            self.note(("reads", step, reads))

    def turn(self):
        """The own log becomes an elder one, and a new one begins after it."""
        self.elders += (self.own,)
        self.own = (("after", len(self.elders) - 1),)
