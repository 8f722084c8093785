"""Questions and their answers, and what a step surely does."""

from stepsunread.books import is_book
from stepsunread.errors import BadBook, BadQuestion, NoStep, NoWorld
from stepsunread.finding import Finding, answer_of_world
from stepsunread.forms import is_pair
from stepsunread.layouts import Layout
from stepsunread.looking import is_same, leaf_answers
from stepsunread.questions import is_question
from stepsunread.sure import Sure
from stepsunread.wording import answer_text
from stepsunread.worlds import is_fitting


def check_question(work, book, question):
    """BadBook, BadQuestion."""
    if not is_question(work, book, question):
        raise BadQuestion(question)


def ask(work, book, question):
    """(rows, tree): each answer with a world that gives it, and a tree that gives no other: BadBook, BadQuestion."""
    check_question(work, book, question)
    finding = Finding(Layout(work, book, ()), question)
    grown = finding.grow()
    return finding.answer_rows(), grown


def shows_answers(work, book, question, value):
    """Whether the value is (rows, tree) as ask could tell them: BadBook, BadQuestion."""
    check_question(work, book, question)
    if not is_pair(value) or not isinstance(value[0], tuple):
        return False
    rows, told = value
    if not all([is_row_of(work, book, question, row) for row in rows]):
        return False
    texts = [answer_text(question, row[0]) for row in rows]
    if any([text >= later for text, later in zip(texts, texts[1:])]):
        return False
    found = leaf_answers(Layout(work, book, ()), question, told)
    known = [row[0] for row in rows]
    return found is not None and all([answer in known for answer in found])


def is_row_of(work, book, question, value):
    """Whether the value is (answer, world), the world fits, and gives this answer."""
    if not is_pair(value) or not is_fitting(work, book, value[1]):
        return False
    return is_same(value[0], answer_of_world(work, book, value[1], question))


def is_sure(work, book, question):
    """Whether there is just one answer: BadBook, BadQuestion."""
    check_question(work, book, question)
    finding = Finding(Layout(work, book, ()), question, (), 2)
    finding.grow()
    return len(finding.found) == 1


def sure_facts(work, book, step):
    """The facts that the program of the step has in each world that fits: BadBook, NoStep, NoWorld."""
    if not is_book(work, book):
        raise BadBook(book)
    if step not in work.steps:
        raise NoStep(step)
    sure = Sure(Layout(work, book, ()), step)
    sure.grow()
    if sure.facts is None:
        raise NoWorld(None)
    return tuple(sorted(sure.facts.items()))
