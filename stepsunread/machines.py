"""What runs do: stands and runs under way, moved on piece by piece.

Nothing is checked here: callers pass crews and stands of the work, and steps
of which a run is under way where that is needed.
"""


def written(work, stand, files, contents):
    """The stand behind the writing of the contents into the files."""
    row = list(stand)
    for file, content in zip(files, contents):
        row[work.places[file]] = content
    return tuple(row)


def left_by(work, step, stand, end):
    """The stand behind a run of the step with this end: what fails writes nothing."""
    return stand if end == "fail" else written(work, stand, work.parts[step].outputs, end)


def end_of(thing):
    """The end of a run that does this thing at last."""
    return "fail" if thing[0] == "fail" else thing[1]


def run_down(work, program, stand):
    """The (way, end) of a run of the program from this stand on."""
    places = work.places
    way = ()
    while program[0] == "read":
        _, file, branches = program
        content = stand[places[file]]
        way += ((file, content),)
        program = branches[content]
    return way, end_of(program)


def run_of(work, crew, step, stand):
    """The (way, end) of a run of the step at the stand."""
    return run_down(work, crew[work.step_numbers[step]], stand)


class Machine:
    """A crew at a stand, and of each run under way what is left of its program."""

    def __init__(self, work, crew, stand):
        self.work = work
        self.crew = crew
        self.stand = stand
        self.running = {}

    def content(self, file):
        """What stands in the file."""
        return self.stand[self.work.places[file]]

    def put(self, place, content):
        """Write the content into the file of this number."""
        self.stand = self.stand[:place] + (content,) + self.stand[place + 1:]

    def write(self, places, contents):
        """Write the contents into the files of these numbers, as far as there are contents."""
        row = list(self.stand)
        for place, content in zip(places, contents):
            row[place] = content
        self.stand = tuple(row)

    def start(self, step):
        """A run of the step begins."""
        self.running[step] = self.crew[self.work.step_numbers[step]]

    def read_next(self, step):
        """The run reads on: the (file, content), None if it has read all."""
        program = self.running[step]
        if program[0] != "read":
            return None
        _, file, branches = program
        content = self.content(file)
        self.running[step] = branches[content]
        return file, content

    def read_rest(self, step):
        """The run reads on as long as it reads: the tuple of what it reads."""
        reads = []
        while self.running[step][0] == "read":
            reads.append(self.read_next(step))
        return tuple(reads)

    def close(self, step, many):
        """The run, which has read all, writes its first so many files: (reads, end)."""
        reads = self.read_rest(step)
        thing = self.running[step]
        self.leave(step)
        if thing[0] == "fail":
            return reads, "fail"
        self.write(self.work.outs[step][:many], thing[1])
        return reads, thing[1]

    def finish_run(self, step):
        """The run reads on as long as it reads, and writes all its files: (reads, end)."""
        return self.close(step, len(self.work.writes(step)))

    def leave(self, step):
        """The run is under way no more."""
        del self.running[step]

    def run_whole(self, step):
        """A run from beginning to end: (way, end)."""
        told = run_of(self.work, self.crew, step, self.stand)
        if told[1] != "fail":
            self.write(self.work.outs[step], told[1])
        return told
