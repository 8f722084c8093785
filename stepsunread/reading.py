"""Reading texts: programs, events, questions, books and houses."""

from stepsunread.books import is_book
from stepsunread.errors import BadBook, BadText, BadWork
from stepsunread.events import is_event, link_of
from stepsunread.forms import is_stand
from stepsunread.houses import House
from stepsunread.mills import Mill
from stepsunread.programs import is_program
from stepsunread.questions import is_asked
from stepsunread.records import Record
from stepsunread.spelling import UNREAD, read_asked, read_contents, read_happened, read_number, read_spelt
from stepsunread.weavings import steps_under_way
from stepsunread.works import Work, part_of

CREW = "crew "
DEEPER = "  "


def read_program(work, step, text):
    """The program of the step that the text writes: NoStep, BadText."""
    part = part_of(work, step)
    program = read_spelt(part, text) if isinstance(text, str) else UNREAD
    if program == UNREAD or not is_program(work, part.name, program):
        raise BadText(0)
    return program


def read_event(work, text):
    """The event that the text writes: BadText."""
    event = read_happened(text.split(" ")) if isinstance(text, str) else UNREAD
    if event == UNREAD or not is_event(work, event):
        raise BadText(0)
    return event


def read_question(work, book, text):
    """The question that the text writes: BadBook, BadText."""
    if not is_book(work, book):
        raise BadBook(book)
    question = read_asked(text.split(" ")) if isinstance(text, str) else UNREAD
    if question == UNREAD or not is_asked(work, book, question):
        raise BadText(0)
    return question


def read_book(work, text):
    """The book that the text writes: BadText."""
    if not isinstance(text, str):
        raise BadText(0)
    return read_logs(work, text.split("\n"), 0)


def read_logs(work, lines, first):
    """The book that the lines from this one on write: BadText."""
    logs = []
    for at in range(first, len(lines)):
        if lines[at] == "log":
            logs.append([])
            continue
        event = UNREAD
        if logs and lines[at].startswith(DEEPER):
            event = read_happened(lines[at][len(DEEPER):].split(" "))
        if event == UNREAD or not is_event(work, event):
            raise BadText(at)
        logs[-1].append(event)
    book = tuple([tuple(log) for log in logs])
    if not is_book(work, book):
        raise BadText(len(lines))
    return book


class Lines:
    """The lines of a house's text, taken one by one."""

    def __init__(self, lines, reached):
        self.lines = lines
        self.reached = reached

    def taken(self, start):
        """What stands in the next line behind its start: BadText."""
        at = self.reached
        if at == len(self.lines) or not self.lines[at].startswith(start):
            raise BadText(at)
        self.reached += 1
        return self.lines[at][len(start):]

    def refuse(self):
        """The line that was taken last cannot stand there: BadText."""
        raise BadText(self.reached - 1)

    def program(self, part):
        """The program of the step in the next line: BadText."""
        program = read_spelt(part, self.taken(CREW))
        if program == UNREAD:
            self.refuse()
        return program

    def many_made(self):
        """How many runs were begun, in the next line: BadText."""
        made = read_number(self.taken("made "))
        if made == UNREAD:
            self.refuse()
        return made


def read_house(text):
    """An equal house, of which nothing can be undone: BadWork, BadText."""
    if not isinstance(text, str):
        raise BadWork(0)
    lines = text.split("\n")
    crews = [at for at, line in enumerate(lines) if line.startswith(CREW)]
    first = crews[0] if crews else len(lines)
    work = Work("\n".join(lines[:first]))
    told = Lines(lines, first)
    crew = tuple([read_member(work, step, told) for step in work.steps])
    stand = read_contents(told.taken("stand "))
    if not is_stand(work, stand):
        told.refuse()
    made = told.many_made()
    book = read_logs(work, lines, told.reached)
    link = link_of(book[-1])
    if (link is not None and link[0] == "beside") or steps_under_way(book[-1])[-1] != ():
        raise BadText(len(lines))
    mill = Mill(work, crew, stand)
    house = House(mill)
    house.restart(Record(mill, book[:-1], book[-1], made))
    return house


def read_member(work, step, told):
    """The program of the step in the next line: BadText."""
    program = told.program(part_of(work, step))
    if not is_program(work, step, program):
        told.refuse()
    return program
