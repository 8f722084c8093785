"""What runs do: stands and runs under way, moved on piece by piece.

Nothing is checked here: callers pass crews and stands of the work, and steps
of which a run is under way where that is needed.
"""


def written(work, stand, files, contents):
    """The stand behind the writing of the contents into the files."""
    row = list(stand)
    for file, content in zip(files, contents):
        row[work.places[file]] = content
    return tuple(row)


def end_of(thing):
    """The end of a run that does this thing at last."""
    return "fail" if thing[0] == "fail" else thing[1]


class Machine:
    """A crew at a stand, and of each run under way what is left of its program."""

    def __init__(self, work, crew, stand):
        self.work = work
        self.crew = crew
        self.stand = stand
        self.running = {}

    def content(self, file):
        """What stands in the file."""
        return self.stand[self.work.places[file]]

    def write(self, places, contents):
        """Write the contents into the files of these numbers, as far as there are contents."""
        for place, content in zip(places, contents):
            self.stand = self.stand[:place] + (content,) + self.stand[place + 1:]

    def start(self, step):
        """A run of the step begins."""
        self.running[step] = self.crew[self.work.steps.index(step)]

    def read_next(self, step):
        """The run reads on: the (file, content), None if it has read all."""
        program = self.running[step]
        if program[0] != "read":
            return None
        _, file, branches = program
        content = self.content(file)
        self.running[step] = branches[content]
        return file, content

    def read_rest(self, step):
        """The run reads on as long as it reads: the tuple of what it reads."""
        reads = []
        while self.running[step][0] == "read":
            reads.append(self.read_next(step))
        return tuple(reads)

    def close(self, step, many):
        """The run, which has read all, writes its first so many files: (reads, end)."""
        reads = self.read_rest(step)
        thing = self.running[step]
        self.leave(step)
        if thing[0] == "fail":
            return reads, "fail"
        self.write(self.work.outs[step][:many], thing[1])
        return reads, thing[1]

    def finish_run(self, step):
        """The run reads on as long as it reads, and writes all its files: (reads, end)."""
        return self.close(step, len(self.work.writes(step)))

    def leave(self, step):
        """The run is under way no more."""
        del self.running[step]

    def run_whole(self, step):
        """A run from beginning to end: (way, end)."""
        places, stand = self.work.places, self.stand
        program = self.crew[self.work.steps.index(step)]
        way = ()
        while program[0] == "read":
            _, file, branches = program
            content = stand[places[file]]
            way += ((file, content),)
            program = branches[content]
        if program[0] == "fail":
            return way, "fail"
        self.write(self.work.outs[step], program[1])
        return way, program[1]
