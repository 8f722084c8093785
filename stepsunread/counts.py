"""How many worlds fit, and how they are shared among the answers to a question."""

from stepsunread.books import is_book
from stepsunread.errors import BadBook, BadMarks, BadQuestion
from stepsunread.finding import Counting
from stepsunread.layouts import Layout
from stepsunread.marks import are_marks
from stepsunread.questions import is_question
from stepsunread.wording import by_text


def worlds(work, book, *, left=()):
    """How many worlds fit but for left out marks: BadBook, BadMarks."""
    if not is_book(work, book):
        raise BadBook(book)
    if not are_marks(book, left):
        raise BadMarks(left)
    counting = Counting(Layout(work, book, left), None)
    counting.grow()
    return counting.counts.get(None, 0)


def shares(work, book, question):
    """(answer, number) for each answer, with the number of worlds that fit and give it: BadBook, BadQuestion."""
    if not is_question(work, book, question):
        raise BadQuestion(question)
    counting = Counting(Layout(work, book, ()), question)
    counting.grow()
    return tuple([(answer, counting.counts[answer]) for answer in by_text(question, list(counting.counts))])
