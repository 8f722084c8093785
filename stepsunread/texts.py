"""The texts of programs, events, questions, books and houses."""

from stepsunread.books import is_book
from stepsunread.errors import BadBook, BadEvent, BadHouse, BadProgram, BadQuestion
from stepsunread.events import is_event
from stepsunread.houses import House
from stepsunread.programs import is_program
from stepsunread.questions import is_asked
from stepsunread.wording import book_lines, contents_text, event_text, program_text, question_text
from stepsunread.works import part_of


def show_program(work, step, program):
    """The text of the program: NoStep, BadProgram."""
    name = part_of(work, step).name
    if not is_program(work, name, program):
        raise BadProgram(program)
    return program_text(program)


def show_event(work, event):
    """The text of the event: BadEvent."""
    if not is_event(work, event):
        raise BadEvent(event)
    return event_text(event)


def show_question(work, book, question):
    """The text of the question: BadBook, BadQuestion."""
    if not is_book(work, book):
        raise BadBook(book)
    if not is_asked(work, book, question):
        raise BadQuestion(question)
    return question_text(question)


def show_book(work, book):
    """The text of the book: BadBook."""
    if not is_book(work, book):
        raise BadBook(book)
    return "\n".join(book_lines(book))


def show_house(house):
    """The text of the house: BadHouse."""
    if not isinstance(house, House) or house.mill.under_way:
        raise BadHouse(house)
    work = house.work
    lines = [work.text]
    lines += ["crew " + program_text(program) for program in house.mill.crew]
    lines += ["stand " + contents_text(house.stand), "made " + str(house.made)]
    return "\n".join(lines + book_lines(house.book))
