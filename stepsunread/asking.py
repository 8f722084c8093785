"""Questions and their answers, and what a step surely does."""

from stepsunread.errors import BadQuestion, NoStep, NoWorld
from stepsunread.finding import Finding
from stepsunread.forms import is_pair, is_same
from stepsunread.looking import leaf_answers
from stepsunread.questions import is_asked
from stepsunread.studies import study_of
from stepsunread.sure import sure_of
from stepsunread.witnesses import answer_of_world, is_fitting
from stepsunread.wording import answer_text


def study_asked(work, book, question):
    """The study of the book: BadBook, BadQuestion."""
    study = study_of(work, book)
    if not is_asked(work, book, question):
        raise BadQuestion(question)
    return study


def ask(work, book, question):
    """(rows, tree): each answer with a world that gives it, and a tree that gives no other: BadBook, BadQuestion."""
    study = study_asked(work, book, question)
    finding = Finding(study.grown(), question)
    grown = finding.grow()
    return study.tell(("ask", question), (finding.answer_rows(), grown))


def shows_answers(work, book, question, value):
    """Whether the value is (rows, tree) as ask could tell them: BadBook, BadQuestion."""
    study = study_asked(work, book, question)
    if study.was_told(("ask", question), value):
        return True
    if not is_pair(value) or not isinstance(value[0], tuple):
        return False
    rows, told = value
    if not all([is_row_of(study.outline, question, row) for row in rows]):
        return False
    texts = [answer_text(question, row[0]) for row in rows]
    if any([text >= later for text, later in zip(texts, texts[1:])]):
        return False
    found = leaf_answers(study.grown(), question, told)
    known = [row[0] for row in rows]
    return found is not None and all([answer in known for answer in found])


def is_row_of(outline, question, value):
    """Whether the value is (answer, world), the world fits, and gives this answer."""
    if not is_pair(value) or not is_fitting(outline, value[1]):
        return False
    return is_same(value[0], answer_of_world(outline, value[1], question))


def is_sure(work, book, question):
    """Whether there is just one answer: BadBook, BadQuestion."""
    return len(study_asked(work, book, question).few_answers(question)) == 1


def sure_facts(work, book, step):
    """The facts that the program of the step has in each world that fits: BadBook, NoStep, NoWorld."""
    study = study_of(work, book)
    if step not in work.steps:
        raise NoStep(step)
    facts = sure_of(study.grown((), ()), step)
    if facts is None:
        raise NoWorld(None)
    return tuple(sorted(facts.items()))
