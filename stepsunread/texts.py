"""The texts of programs, events, questions, books and houses."""

from stepsunread.books import is_book
from stepsunread.errors import BadBook, BadEvent, BadHouse, BadProgram, BadQuestion
from stepsunread.events import is_event
from stepsunread.houses import House
from stepsunread.programs import is_program
from stepsunread.questions import PARTS, is_asked
from stepsunread.wording import content_text, contents_text, end_text, names_text, way_text
from stepsunread.works import part_of


def word_text(word):
    """The text of a word, a number or a name."""
    return str(word)


# The parts of events behind the word, by this word.
EVENT_PARTS = {
    "after": (word_text,),
    "beside": (word_text,),
    "set": (word_text, content_text),
    "saw": (word_text, content_text),
    "run": (word_text, way_text, end_text),
    "begin": (word_text,),
    "reads": (word_text, way_text),
    "end": (word_text, end_text),
    "break": (word_text, contents_text),
}
# The parts of questions that are no words, numbers or names.
QUESTION_PARTS = {"way": way_text, "changes": way_text, "stand": contents_text, "files": names_text}


def program_text(program):
    """The text of a program."""
    if program[0] == "fail":
        return "fail"
    if program[0] == "end":
        return contents_text(program[1])
    return program[1] + "(" + " ".join([program_text(branch) for branch in program[2]]) + ")"


def event_text(event):
    """The text of an event."""
    words = [event[0]]
    for show, part in zip(EVENT_PARTS[event[0]], event[1:]):
        words.append(show(part))
    return " ".join(words)


def question_text(question):
    """The text of a question."""
    words = [question[0]]
    for kind, part in zip(PARTS[question[0]], question[1:]):
        show = QUESTION_PARTS.get(kind, word_text)
        words.append(show(part))
    return " ".join(words)


def book_lines(book):
    """The lines of the text of a book."""
    lines = []
    for log in book:
        lines.append("log")
        lines += ["  " + event_text(event) for event in log]
    return lines


def show_program(work, step, program):
    """The text of the program: NoStep, BadProgram."""
    name = part_of(work, step).name
    if not is_program(work, name, program):
        raise BadProgram(program)
    return program_text(program)


def show_event(work, event):
    """The text of the event: BadEvent."""
    if not is_event(work, event):
        raise BadEvent(event)
    return event_text(event)


def show_question(work, book, question):
    """The text of the question: BadBook, BadQuestion."""
    if not is_book(work, book):
        raise BadBook(book)
    if not is_asked(work, book, question):
        raise BadQuestion(question)
    return question_text(question)


def show_book(work, book):
    """The text of the book: BadBook."""
    if not is_book(work, book):
        raise BadBook(book)
    return "\n".join(book_lines(book))


def show_house(house):
    """The text of the house: BadHouse."""
    if not isinstance(house, House) or house.mill.under_way:
        raise BadHouse(house)
    work = house.work
    lines = [work.text]
    lines += ["crew " + program_text(program) for program in house.mill.crew]
    lines += ["stand " + contents_text(house.stand), "made " + str(house.made)]
    return "\n".join(lines + book_lines(house.book))
