"""Trees of cases: the worlds of a book, parted by what is open."""

from stepsunread.books import is_book
from stepsunread.errors import BadBook, BadMarks, BadQuestion
from stepsunread.growth import Growth
from stepsunread.layouts import Layout
from stepsunread.marks import are_marks
from stepsunread.looking import leaf_answers
from stepsunread.questions import is_question


def check_asked(work, book, question, left):
    """BadBook, BadQuestion for what is neither None nor a question, BadMarks."""
    if not is_book(work, book):
        raise BadBook(book)
    if question is not None and not is_question(work, book, question):
        raise BadQuestion(question)
    if not are_marks(book, left):
        raise BadMarks(left)


def tree(work, book, question, *, left=()):
    """Any tree: BadBook, BadQuestion, BadMarks."""
    check_asked(work, book, question, left)
    return Growth(Layout(work, book, left), question).grow()


def shows_tree(work, book, question, value, *, left=()):
    """Whether the value is a tree: BadBook, BadQuestion, BadMarks."""
    check_asked(work, book, question, left)
    return leaf_answers(Layout(work, book, left), question, value) is not None
