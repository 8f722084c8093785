"""The fewest notes that must be wrong, and the fewest that keep the answers."""

from itertools import combinations

from stepsunread.books import is_book
from stepsunread.clashes import shuts
from stepsunread.errors import BadBook, BadMarks, BadQuestion, BadQuestions, NoWorld
from stepsunread.finding import Finding, answer_of_world, answers_of
from stepsunread.forms import is_below, is_pair
from stepsunread.hitting import bars_all_ahead, is_barred
from stepsunread.layouts import Layout
from stepsunread.looking import leaf_answers
from stepsunread.marks import are_marks, marks_of, others
from stepsunread.making import some_world
from stepsunread.questions import is_question
from stepsunread.stripping import strip
from stepsunread.worlds import is_world, misfits

MOST_QUESTIONS = 3


def amends(work, book):
    """(marks, world, rows): the fewest marks but for which some world fits: BadBook."""
    if not is_book(work, book):
        raise BadBook(book)
    marks = marks_of(book)
    rows = []
    for many in range(len(marks) + 1):
        for chosen in combinations(marks, many):
            if is_barred(chosen, [row[0] for row in rows]):
                continue
            finding = Finding(Layout(work, book, chosen), None, (), 1)
            finding.grow()
            if finding.found:
                return chosen, some_world(finding.found[None]), tuple(rows)
            rows.append(strip(work, book, None, (), chosen))
    return None


def shows_amends(work, book, value):
    """Whether the value is what amends could tell, with any rows: BadBook."""
    if not is_book(work, book):
        raise BadBook(book)
    if not isinstance(value, tuple) or len(value) != 3 or not isinstance(value[2], tuple):
        return False
    marks, world, rows = value
    if not are_marks(book, marks) or not is_world(work, book, world):
        return False
    if not all([mark in marks for mark in misfits(work, book, world)]):
        return False
    for row in rows:
        if not is_pair(row) or not are_marks(book, row[0]) or not shuts(work, book, row[0], row[1]):
            return False
    return bars_all_ahead(marks_of(book), marks, [row[0] for row in rows])


def check_lean(work, book, questions, given):
    """BadBook, BadQuestions, BadQuestion with the first that is none, BadMarks."""
    if not is_book(work, book):
        raise BadBook(book)
    if not isinstance(questions, tuple) or not 1 <= len(questions) <= MOST_QUESTIONS:
        raise BadQuestions(questions)
    for question in questions:
        if not is_question(work, book, question):
            raise BadQuestion(question)
    if not are_marks(book, given):
        raise BadMarks(given)


def all_answers(work, book, questions):
    """For each question the answers of worlds that fit: NoWorld."""
    rows = [answers_of(work, book, question) for question in questions]
    if not rows[0]:
        raise NoWorld(None)
    return rows


def lean(work, book, questions, *, given=()):
    """(marks, trees, rows): the fewest further marks that bring no answer in.

    BadBook, BadQuestions, BadQuestion, BadMarks, NoWorld.
    """
    check_lean(work, book, questions, given)
    answers = all_answers(work, book, questions)
    marks = list(others(book, given))
    rows, barring = [], []
    for many in range(len(marks) + 1):
        for chosen in combinations(marks, many):
            if is_barred(chosen, barring):
                continue
            left = [mark for mark in marks if mark not in chosen]
            trees, row = trees_or_row(work, book, questions, answers, left)
            if row is None:
                return chosen, tuple(trees), tuple(rows)
            rows.append(row)
            barring.append(misfits(work, book, row[1]))
    return None


def trees_or_row(work, book, questions, answers, left):
    """(trees, None) if but for left out marks no answer comes in, otherwise (None, (number, world)) of one."""
    trees = []
    for number, question in enumerate(questions):
        finding = Finding(Layout(work, book, left), question, answers[number], 1)
        grown = finding.grow()
        if finding.found:
            return None, (number, closest_world(work, book, question, answers[number], finding))
        trees.append(grown)
    return trees, None


def closest_world(work, book, question, known, finding):
    """A world with another answer than the known ones, with as little wrong as one by one can be mended."""
    world = finding.answer_rows()[0][1]
    for mark in misfits(work, book, world):
        wrong = [other for other in misfits(work, book, world) if other != mark]
        trial = Finding(Layout(work, book, wrong), question, known, 1)
        trial.grow()
        if trial.found:
            world = trial.answer_rows()[0][1]
    return world


def shows_lean(work, book, questions, value, *, given=()):
    """Whether the value is what lean could tell, with any rows and trees.

    BadBook, BadQuestions, BadQuestion, BadMarks, NoWorld.
    """
    check_lean(work, book, questions, given)
    answers = all_answers(work, book, questions)
    if not isinstance(value, tuple) or len(value) != 3:
        return False
    marks, trees, rows = value
    if not are_marks(book, marks) or any([mark in given for mark in marks]):
        return False
    if not isinstance(trees, tuple) or len(trees) != len(questions) or not isinstance(rows, tuple):
        return False
    left = [mark for mark in others(book, given) if mark not in marks]
    for question, known, grown in zip(questions, answers, trees):
        found = leaf_answers(Layout(work, book, left), question, grown)
        if found is None or any([answer not in known for answer in found]):
            return False
    if not all([brings_in(work, book, questions, answers, given, row) for row in rows]):
        return False
    return bars_all_ahead(others(book, given), marks, [misfits(work, book, row[1]) for row in rows])


def brings_in(work, book, questions, answers, given, value):
    """Whether the value is (number, world): what is given fits there, and no world that fits has its answer."""
    if not is_pair(value) or not is_below(value[0], len(questions)) or not is_world(work, book, value[1]):
        return False
    number, world = value
    if any([mark in given for mark in misfits(work, book, world)]):
        return False
    return answer_of_world(work, book, world, questions[number]) not in answers[number]
