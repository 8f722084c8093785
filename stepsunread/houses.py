"""Houses: they run steps, and keep notes."""

from stepsunread.books import MOST_LOGS, is_book
from stepsunread.errors import (
    BadBook, BadCount, BadMill, BadQuestion, NoMark, NoStep, NothingToUndo, NoTrial, TooMany,
)
from stepsunread.elders import blotted, is_blottable, moved_on
from stepsunread.forms import is_integer
from stepsunread.mills import Mill
from stepsunread.questions import is_asked
from stepsunread.records import Record, check_truth
from stepsunread.renewing import answers_of_record, check_clash, reach, renew
from stepsunread.trials import Trial

MOST_TOLD = 2
MOST_SWEEPS = 5


class House:
    """A house with a mill, and one or two logs that it was told, or (): BadMill, BadBook, Clash."""

    def __init__(self, mill, *, book=()):
        if not isinstance(mill, Mill) or mill.under_way:
            raise BadMill(mill)
        if not is_told(mill.work, book) and not (isinstance(book, tuple) and len(book) == 0):
            raise BadBook(book)
        if book:
            check_clash(mill.work, book)
        self.work = mill.work
        # The trial that was begun last, and is not over.
        self.innermost = None
        self.restart(Record(mill.copy(), book, (), 0))

    def __eq__(self, other):
        if not isinstance(other, House):
            return False
        return self.mill == other.mill and self.book == other.book and self.made == other.made

    def restart(self, record):
        """All is as the record tells, and nothing can be undone."""
        # The records ahead of the deeds that can be undone.
        self.past = ()
        self.take(record)

    def take(self, record):
        """All is as the record tells."""
        self.record = record
        self.mill = record.mill
        self.stand = record.mill.stand
        self.book = record.logs()
        self.made = record.made

    def adopt(self, record):
        """A deed is done: all is as the record tells. It can be undone if it changed something."""
        # All that changes something is noted.
        if record.logs() != self.book:
            self.past += (self.record,)
            self.take(record)

    def put(self, file, content, *, is_noted=True):
        """A hand writes: NoFile, BadContent, BadTruth, Full."""
        record = self.record.copy()
        record.put(file, content, is_noted)
        self.adopt(record)

    def look(self, file):
        """The content of the file: NoFile, Full."""
        record = self.record.copy()
        content = record.look(file)
        self.adopt(record)
        return content

    def make(self, step):
        """A run from beginning to end: (way, end): NoStep, UnderWay, Full."""
        record = self.record.copy()
        told = record.make(step)
        self.adopt(record)
        return told

    def begin(self, step):
        """A run begins: NoStep, UnderWay, Full."""
        record = self.record.copy()
        record.begin(step)
        self.adopt(record)

    def read_on(self, step):
        """The run reads on: (file, content), None if it has read all: NoStep, NotUnderWay, Full."""
        record = self.record.copy()
        read = record.read_on(step)
        self.adopt(record)
        return read

    def finish(self, step):
        """The run reads on as long as it reads, and writes: (reads, end): NoStep, NotUnderWay, Full."""
        record = self.record.copy()
        told = record.finish(step)
        self.adopt(record)
        return told

    def stop(self, step, many):
        """The run is broken off behind so many files: (reads, contents): NoStep, NotUnderWay, BadCount, Full."""
        record = self.record.copy()
        told = record.stop(step, many)
        self.adopt(record)
        return told

    def word(self, step):
        """Whether the step is surely "fresh", surely "stale", or that is "open": NoStep, Clash."""
        if step not in self.work.steps:
            raise NoStep(step)
        answers = answers_of_record(self.record, ("fresh", self.record.own_number(), step))
        if len(answers) > 1:
            return "open"
        return "fresh" if answers[0] else "stale"

    def answers(self, question):
        """The answers to the question, in the sequence of ask: BadQuestion, Clash."""
        if not is_asked(self.work, self.book, question):
            raise BadQuestion(question)
        return answers_of_record(self.record, question)

    def renew(self, most, *, is_restoring=False):
        """Sweeps, at most so many: (step, "restored" or "made") for each step that was not left.

        BadCount, BadTruth, UnderWay, Clash, Full.
        """
        if not is_integer(most) or not 1 <= most <= MOST_SWEEPS:
            raise BadCount(most)
        check_truth(is_restoring)
        record = self.record.copy()
        record.check_all_idle()
        rows = renew(record, most, is_restoring)
        self.adopt(record)
        return rows

    def reach(self, goal, prices, most, *, is_writing=True):
        """The price that was paid for acts that reach the goal, None if there is no plan.

        UnderWay, BadGoal, BadPrices, BadCount, BadTruth, Clash, Full.
        """
        record = self.record.copy()
        record.check_all_idle()
        paid = reach(record, goal, prices, most, is_writing)
        self.adopt(record)
        return paid

    def join(self, book):
        """One or two elder logs more: BadBook, TooMany, Clash."""
        if not is_told(self.work, book):
            raise BadBook(book)
        record = self.record.copy()
        if len(record.elders) + len(book) >= MOST_LOGS:
            raise TooMany(MOST_LOGS)
        record.elders += moved_on(book, len(record.elders))
        check_clash(self.work, record.logs())
        self.adopt(record)

    def blot(self, mark):
        """What is noted in an event of an elder log is no more: NoMark."""
        record = self.record.copy()
        if not is_blottable(record.elders, mark):
            raise NoMark(mark)
        record.elders = blotted(record.elders, mark)
        self.adopt(record)

    def turn(self):
        """The own log becomes an elder one, and a new one begins after it: TooMany, UnderWay."""
        record = self.record.copy()
        if len(record.elders) + 1 >= MOST_LOGS:
            raise TooMany(MOST_LOGS)
        record.check_all_idle()
        record.turn()
        self.adopt(record)

    def undo(self):
        """The last deed that changed something, and was not undone, is taken back: NothingToUndo."""
        if not self.past:
            raise NothingToUndo(None)
        self.take(self.past[-1])
        self.past = self.past[:-1]

    def trial(self):
        """A trial, for a with statement."""
        return Trial(self)

    def keep(self):
        """The innermost trial is kept: NoTrial."""
        if self.innermost is None:
            raise NoTrial(None)
        self.innermost.keeper = self

    def tried(self, look, *, is_kept=False):
        """What look, called with the house in a trial, returns."""
        with self.trial():
            told = look(self)
            if is_kept is True:
                self.keep()
        return told


def is_told(work, value):
    """Whether the value is a book of one or two logs."""
    return is_book(work, value) and len(value) <= MOST_TOLD
