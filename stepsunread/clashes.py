"""Notes that contradict, and notes that are enough for an answer."""

from stepsunread.books import is_book
from stepsunread.errors import BadBook, BadQuestion, NoWorld
from stepsunread.finding import has_world, only_answer
from stepsunread.forms import is_pair
from stepsunread.layouts import Layout
from stepsunread.looking import is_same, leaf_answers
from stepsunread.marks import are_marks, others
from stepsunread.questions import is_question
from stepsunread.stripping import strip


def clash(work, book):
    """None if some world fits, otherwise (marks, tree) of notes that contradict: BadBook."""
    if not is_book(work, book):
        raise BadBook(book)
    return None if has_world(work, book) else strip(work, book, None, ())


def shows_clash(work, book, value):
    """Whether the value is what clash could tell, with any marks: BadBook."""
    if not is_book(work, book):
        raise BadBook(book)
    if value is None:
        return has_world(work, book)
    return is_pair(value) and are_marks(book, value[0]) and shuts(work, book, value[0], value[1])


def shuts(work, book, marks, value):
    """Whether the value is a tree that shuts but for other events than these."""
    return leaf_answers(Layout(work, book, others(book, marks)), None, value) == []


def grounds(work, book, question):
    """(marks, answer, tree) of notes that are enough for the only answer: BadBook, BadQuestion, NotSure, NoWorld."""
    if not is_question(work, book, question):
        raise BadQuestion(question)
    answer = only_answer(work, book, question)
    marks, tree = strip(work, book, question, (answer,))
    return marks, answer, tree


def shows_grounds(work, book, question, value):
    """Whether the value is what grounds could tell, with any marks: BadBook, BadQuestion, NoWorld."""
    if not is_question(work, book, question):
        raise BadQuestion(question)
    if not has_world(work, book):
        raise NoWorld(None)
    if not isinstance(value, tuple) or len(value) != 3 or not are_marks(book, value[0]):
        return False
    marks, answer, tree = value
    answers = leaf_answers(Layout(work, book, others(book, marks)), question, tree)
    # Some world fits: so the tree gives an answer, and it is that of this world.
    return answers is not None and len(answers) == 1 and is_same(answer, answers[0])
