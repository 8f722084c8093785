"""The fewest notes that must be wrong, and the fewest that keep the answers."""

from itertools import combinations

from stepsunread.clashes import shuts
from stepsunread.errors import BadMarks, BadQuestion, BadQuestions, NoWorld
from stepsunread.finding import Finding
from stepsunread.forms import is_below, is_pair
from stepsunread.hitting import bars_all_ahead, is_barred
from stepsunread.looking import leaf_answers
from stepsunread.making import some_world
from stepsunread.marks import are_marks, marks_of, others
from stepsunread.questions import is_asked
from stepsunread.stripping import strip
from stepsunread.studies import study_of
from stepsunread.witnesses import answer_of_world, misfits_of

MOST_QUESTIONS = 3


def amends(work, book):
    """(marks, world, rows): the fewest marks but for which some world fits: BadBook."""
    study = study_of(work, book)
    marks = marks_of(book)
    rows = []
    for many in range(len(marks) + 1):
        for chosen in combinations(marks, many):
            if is_barred(chosen, [row[0] for row in rows]):
                continue
            case = study.grown(chosen, ()).leaf(0)
            if case is not None:
                return study.tell(("amends",), (chosen, some_world(case), tuple(rows)))
            rows.append(strip(study, None, (), chosen))
    return None


def shows_amends(work, book, value):
    """Whether the value is what amends could tell, with any rows: BadBook."""
    study = study_of(work, book)
    if study.was_told(("amends",), value):
        return True
    if not isinstance(value, tuple) or len(value) != 3 or not isinstance(value[2], tuple):
        return False
    marks, world, rows = value
    wrong = misfits_of(study.outline, world)
    if not are_marks(book, marks) or wrong is None or any([mark not in marks for mark in wrong]):
        return False
    for row in rows:
        if not is_pair(row) or not are_marks(book, row[0]) or not shuts(study, row[0], row[1]):
            return False
    return bars_all_ahead(marks_of(book), marks, [row[0] for row in rows])


def check_lean(work, book, questions, given):
    """The study of the book: BadBook, BadQuestions, BadQuestion with the first that is none, BadMarks."""
    study = study_of(work, book)
    if not isinstance(questions, tuple) or not 1 <= len(questions) <= MOST_QUESTIONS:
        raise BadQuestions(questions)
    for question in questions:
        if not is_asked(work, book, question):
            raise BadQuestion(question)
    if not are_marks(book, given):
        raise BadMarks(given)
    return study


def all_answers(study, questions):
    """For each question the answers of worlds that fit: NoWorld."""
    if not study.has_world():
        raise NoWorld(None)
    return [study.answers(question) for question in questions]


def lean(work, book, questions, *, given=()):
    """(marks, trees, rows): the fewest further marks that bring no answer in.

    BadBook, BadQuestions, BadQuestion, BadMarks, NoWorld.
    """
    study = check_lean(work, book, questions, given)
    answers = all_answers(study, questions)
    marks = list(others(book, given))
    rows, barring = [], []
    for many in range(len(marks) + 1):
        for chosen in combinations(marks, many):
            if is_barred(chosen, barring):
                continue
            left = [mark for mark in marks if mark not in chosen]
            trees, row = trees_or_row(study, questions, answers, left)
            if row is None:
                return study.tell(("lean", questions, given), (chosen, tuple(trees), tuple(rows)))
            rows.append(row)
            barring.append(misfits_of(study.outline, row[1]))
    return None


def trees_or_row(study, questions, answers, left):
    """(trees, None) if but for left out marks no answer comes in, otherwise (None, (number, world)) of one."""
    trees = []
    for number, question in enumerate(questions):
        finding = Finding(study.grown(left), question, answers[number], 1)
        grown = finding.grow()
        if finding.found:
            world = finding.answer_rows()[0][1]
            return None, (number, closest_world(study, question, answers[number], world))
        trees.append(grown)
    return trees, None


def closest_world(study, question, known, world):
    """A world with another answer than the known ones, with as little wrong as one by one can be mended."""
    for mark in misfits_of(study.outline, world):
        wrong = [other for other in misfits_of(study.outline, world) if other != mark]
        found = study.world_with_other(question, known, wrong)
        world = world if found is None else found
    return world


def shows_lean(work, book, questions, value, *, given=()):
    """Whether the value is what lean could tell, with any rows and trees.

    BadBook, BadQuestions, BadQuestion, BadMarks, NoWorld.
    """
    study = check_lean(work, book, questions, given)
    answers = all_answers(study, questions)
    if study.was_told(("lean", questions, given), value):
        return True
    if not isinstance(value, tuple) or len(value) != 3:
        return False
    marks, trees, rows = value
    if not are_marks(book, marks) or any([mark in given for mark in marks]):
        return False
    if not isinstance(trees, tuple) or len(trees) != len(questions) or not isinstance(rows, tuple):
        return False
    left = [mark for mark in others(book, given) if mark not in marks]
    for question, known, grown in zip(questions, answers, trees):
        found = leaf_answers(study.grown(left), question, grown)
        if found is None or any([answer not in known for answer in found]):
            return False
    if not all([brings_in(study.outline, questions, answers, given, row) for row in rows]):
        return False
    return bars_all_ahead(others(book, given), marks, [misfits_of(study.outline, row[1]) for row in rows])


def brings_in(outline, questions, answers, given, value):
    """Whether the value is (number, world): what is given fits there, and no world that fits has its answer."""
    if not is_pair(value) or not is_below(value[0], len(questions)):
        return False
    number, world = value
    wrong = misfits_of(outline, world)
    if wrong is None or any([mark in given for mark in wrong]):
        return False
    return answer_of_world(outline, world, questions[number]) not in answers[number]
