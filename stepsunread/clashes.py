"""Notes that contradict, and notes that are enough for an answer."""

from stepsunread.asking import study_asked
from stepsunread.errors import NoWorld
from stepsunread.finding import only_answer
from stepsunread.forms import is_pair, is_same
from stepsunread.looking import leaf_answers
from stepsunread.marks import are_marks, others
from stepsunread.stripping import strip
from stepsunread.studies import study_of


def clash(work, book):
    """None if some world fits, otherwise (marks, tree) of notes that contradict: BadBook."""
    study = study_of(work, book)
    return None if study.has_world() else study.tell(("clash",), strip(study, None, ()))


def shows_clash(work, book, value):
    """Whether the value is what clash could tell, with any marks: BadBook."""
    study = study_of(work, book)
    if value is None:
        return study.has_world()
    if study.was_told(("clash",), value):
        return True
    return is_pair(value) and are_marks(book, value[0]) and shuts(study, value[0], value[1])


def shuts(study, marks, value):
    """Whether the value is a tree that shuts but for other events than these."""
    return leaf_answers(study.grown(others(study.book, marks)), None, value) == []


def grounds(work, book, question):
    """(marks, answer, tree) of notes that are enough for the only answer: BadBook, BadQuestion, NotSure, NoWorld."""
    study = study_asked(work, book, question)
    answer = only_answer(study, question)
    marks, tree = strip(study, question, (answer,))
    return study.tell(("grounds", question), (marks, answer, tree))


def shows_grounds(work, book, question, value):
    """Whether the value is what grounds could tell, with any marks: BadBook, BadQuestion, NoWorld."""
    study = study_asked(work, book, question)
    if not study.has_world():
        raise NoWorld(None)
    if study.was_told(("grounds", question), value):
        return True
    if not isinstance(value, tuple) or len(value) != 3 or not are_marks(book, value[0]):
        return False
    marks, answer, tree = value
    answers = leaf_answers(study.grown(others(book, marks)), question, tree)
    # Some world fits: so the tree gives an answer, and it is that of this world.
    return answers is not None and len(answers) == 1 and is_same(answer, answers[0])
