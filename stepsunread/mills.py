"""Mills: the real thing, with a crew that runs."""

from stepsunread.errors import BadContent, BadCount, BadCrew, BadStand, NoFile, NotUnderWay, UnderWay
from stepsunread.forms import is_below, is_content, is_stand
from stepsunread.machines import Machine
from stepsunread.runs import is_crew
from stepsunread.works import part_of


class Mill:
    """A crew at a stand, whose steps run: BadCrew, BadStand."""

    def __init__(self, work, crew, stand):
        if not is_crew(work, crew):
            raise BadCrew(crew)
        if not is_stand(work, stand):
            raise BadStand(stand)
        self.work = work
        self.crew = crew
        self.stand = stand
        # The steps whose runs are under way, in the sequence of steps.
        self.under_way = ()
        self.machine = Machine(work, crew, stand)
        # By steps whose runs are under way: what they have read.
        self.ways = {}

    def __eq__(self, other):
        if not isinstance(other, Mill) or self.work != other.work:
            return False
        return (self.crew, self.stand, self.ways) == (other.crew, other.stand, other.ways)

    def copy(self):
        """An equal mill that goes on by itself."""
        twin = Mill(self.work, self.crew, self.stand)
        twin.under_way = self.under_way
        twin.machine.running = dict(self.machine.running)
        twin.ways = dict(self.ways)
        return twin

    def put(self, file, content):
        """A hand writes: NoFile, BadContent."""
        if file not in self.work.files:
            raise NoFile(file)
        if not is_content(self.work, file, content):
            raise BadContent(content)
        self.machine.write((self.work.places[file],), (content,))
        self.settle()

    def make(self, step):
        """A run from beginning to end: (way, end): NoStep, UnderWay."""
        self.check_idle(step)
        told = self.machine.run_whole(step)
        self.settle()
        return told

    def begin(self, step):
        """A run begins: NoStep, UnderWay."""
        self.check_idle(step)
        self.machine.start(step)
        self.ways[step] = ()
        self.settle()

    def read_on(self, step):
        """The run reads on: (file, content), None if it has read all: NoStep, NotUnderWay."""
        self.check_going(step)
        read = self.machine.read_next(step)
        if read is not None:
            self.ways[step] += (read,)
        return read

    def finish(self, step):
        """The run reads on as long as it reads, and writes: (reads, end): NoStep, NotUnderWay."""
        self.check_going(step)
        told = self.machine.finish_run(step)
        del self.ways[step]
        self.settle()
        return told

    def stop(self, step, many):
        """The run is broken off behind so many files: (reads, contents): NoStep, NotUnderWay, BadCount."""
        self.check_going(step)
        if not is_below(many, len(self.work.writes(step))):
            raise BadCount(many)
        reads, end = self.leave(step) if many == 0 else self.machine.close(step, many)
        del self.ways[step]
        self.settle()
        return reads, () if end == "fail" else end[:many]

    def leave(self, step):
        """The run is broken off at once."""
        self.machine.leave(step)
        return (), ()

    def settle(self):
        """What can be seen of the mill is as it is now."""
        self.stand = self.machine.stand
        self.under_way = tuple([step for step in self.work.steps if step in self.ways])

    def check_idle(self, step):
        """NoStep, UnderWay."""
        if part_of(self.work, step).name in self.ways:
            raise UnderWay(step)

    def check_going(self, step):
        """NoStep, NotUnderWay."""
        if part_of(self.work, step).name not in self.ways:
            raise NotUnderWay(step)
