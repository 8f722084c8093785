"""What is worked out of books, and kept as long as they are asked for again."""

from stepsunread.books import MOST_EVENTS, MOST_LOGS, is_book
from stepsunread.errors import BadBook
from stepsunread.events import LENGTHS
from stepsunread.forms import is_same, string_of
from stepsunread.growth import Growth
from stepsunread.idling import idle_marks
from stepsunread.inquiries import find_answers
from stepsunread.layouts import Layout, Outline
from stepsunread.making import some_world
from stepsunread.questions import names_log
from stepsunread.wording import by_text

# A work keeps what was worked out of so many books, and of each book for so many tuples of left out marks.
MOST_STUDIES = 8
MOST_GROWTHS = 8
MOST_TOLD = 32


class Study:
    """A book, and what was worked out of it."""

    def __init__(self, work, book):
        self.work = work
        self.book = book
        self.outline = Outline(work, book)
        # By marks of runs that are passed over; and those for left out marks, by these, too.
        self.whole = {}
        # By (log, number of events): what cut tells.
        self.cuts = {}
        # What was told last of what was asked, as values that are shown may be just that.
        self.told = {}
        # By questions: all their answers.
        self.answered = {}
        self.lacking = {}
        # By logs and goals, as strings: see stepsunread/plans.py.
        self.prospects = {}

    def cut(self, log, number):
        """The study of the book with so many first events of the log alone."""
        if (log, number) not in self.cuts:
            book = self.book[:log] + (self.book[log][:number],) + self.book[log + 1:]
            self.cuts[log, number] = Study(self.work, book)
        return self.cuts[log, number]

    def grown(self, left=(), logs=None):
        """The tree without a question, but for left out marks.

        With a tuple of logs, runs are passed over on which nothing hangs that is asked of these logs.
        """
        idle = () if logs is None else idle_marks(self.outline, left, logs)
        if not left:
            if idle not in self.whole:
                self.whole[idle] = Growth(Layout(self.outline, (), idle))
            return self.whole[idle]
        key = tuple(left), idle
        if key not in self.lacking:
            if len(self.lacking) == MOST_GROWTHS:
                self.lacking.clear()
            self.lacking[key] = Growth(Layout(self.outline, left, idle))
        return self.lacking[key]

    def logs_of(self, question):
        """The logs of which the question asks more than what is noted."""
        return (question[1],) if names_log(question) else ()

    def has_world(self):
        """Whether some world fits."""
        return self.grown((), ()).leaf(0) is not None

    def answers(self, question):
        """The answers of worlds that fit, ascending by their texts."""
        if question not in self.answered:
            found = find_answers(self.grown((), self.logs_of(question)), question)
            if len(self.answered) == MOST_TOLD:
                self.answered.clear()
            self.answered[question] = tuple(by_text(question, list(found)))
        return self.answered[question]

    def few_answers(self, question):
        """The answers of worlds that fit, ascending by their texts, but no more than two of them."""
        if question in self.answered:
            return self.answered[question][:2]
        found = find_answers(self.grown((), self.logs_of(question)), question, (), 2)
        return tuple(by_text(question, list(found)))

    def world_with_other(self, question, known, left):
        """A world that fits but for left out marks, and gives another answer than these; None if there is none."""
        found = find_answers(self.grown(left, self.logs_of(question)), question, known, 1)
        return some_world(list(found.values())[0]) if found else None

    def tell(self, place, value):
        """The value is told: place names what was asked; an empty one keeps nothing."""
        if len(self.told) == MOST_TOLD:
            self.told.clear()
        if place:
            self.told[place] = value
        return value

    def was_told(self, place, value):
        """Whether just this value was told."""
        return place in self.told and is_same(value, self.told[place])


def may_be_book(value):
    """Whether the value has the rough form of a book: so it is not nested too deep to be written as a string."""
    if not isinstance(value, tuple) or len(value) > MOST_LOGS:
        return False
    for log in value:
        if not isinstance(log, tuple) or len(log) > MOST_EVENTS:
            return False
        for event in log:
            if not isinstance(event, tuple) or not event or not isinstance(event[0], str) or event[0] not in LENGTHS:
                return False
    return True


def study_of(work, book):
    """The study of the book: BadBook."""
    if not may_be_book(book):
        raise BadBook(book)
    key = string_of(book)
    if key not in work.studies:
        if not is_book(work, book):
            raise BadBook(book)
        if len(work.studies) == MOST_STUDIES:
            work.studies.clear()
        work.studies[key] = Study(work, book)
    return work.studies[key]
