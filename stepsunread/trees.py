"""Trees of cases: the worlds of a book, parted by what is open."""

from stepsunread.errors import BadMarks, BadQuestion
from stepsunread.finding import tree_of
from stepsunread.looking import leaf_answers
from stepsunread.marks import are_marks
from stepsunread.questions import is_asked
from stepsunread.studies import study_of


def study_left(work, book, question, left):
    """The study of the book: BadBook, BadQuestion for what is neither None nor a question, BadMarks."""
    study = study_of(work, book)
    if question is not None and not is_asked(work, book, question):
        raise BadQuestion(question)
    if not are_marks(book, left):
        raise BadMarks(left)
    return study


def tree(work, book, question, *, left=()):
    """Any tree: BadBook, BadQuestion, BadMarks."""
    study = study_left(work, book, question, left)
    return study.tell(("tree", question, left), tree_of(study.grown(left), question))


def shows_tree(work, book, question, value, *, left=()):
    """Whether the value is a tree: BadBook, BadQuestion, BadMarks."""
    study = study_left(work, book, question, left)
    if study.was_told(("tree", question, left), value):
        return True
    return leaf_answers(study.grown(left), question, value) is not None
