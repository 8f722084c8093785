"""In how few rounds steps may run side by side."""

from itertools import combinations

from stepsunread.errors import BadSteps, NoWorld
from stepsunread.finding import Finding
from stepsunread.forms import is_same
from stepsunread.looking import leaf_answers
from stepsunread.making import some_world
from stepsunread.studies import study_of
from stepsunread.witnesses import answer_of_world, is_fitting


def check_rounds(work, book, steps):
    """The study of the book: BadBook, BadSteps, NoWorld."""
    study = study_of(work, book)
    if not are_steps(work, steps):
        raise BadSteps(steps)
    if not study.has_world():
        raise NoWorld(None)
    return study


def are_steps(work, value):
    """Whether the value is a tuple of different steps."""
    if not isinstance(value, tuple) or not all([step in work.steps for step in value]):
        return False
    return all([step not in value[:at] for at, step in enumerate(value)])


def placed(steps, barred):
    """The rounds, if the pairs that are barred do not stand in one: each step as early as can be."""
    levels = {}
    for at, step in enumerate(steps):
        ahead = [levels[other] + 1 for other in steps[:at] if (other, step) in barred]
        levels[step] = max(ahead, default=0)
    many = max(list(levels.values()), default=-1) + 1
    return tuple([tuple([step for step in steps if levels[step] == level]) for level in range(many)])


def rounds(work, book, steps):
    """(rounds, rows): as few rounds as can be, and why: BadBook, BadSteps, NoWorld."""
    study = check_rounds(work, book, steps)
    rows, barred = [], []
    for step, other in combinations(list(steps), 2):
        finding = Finding(study.grown(), ("apart", step, other), (True,), 1)
        grown = finding.grow()
        if finding.found:
            barred.append((step, other))
            grown = some_world(finding.found[False])
        rows.append((step, other, grown))
    return study.tell(("rounds", steps), (placed(steps, barred), tuple(rows)))


def shows_rounds(work, book, steps, value):
    """Whether the value is what rounds could tell: BadBook, BadSteps, NoWorld."""
    study = check_rounds(work, book, steps)
    if study.was_told(("rounds", steps), value):
        return True
    if not isinstance(value, tuple) or len(value) != 2 or not isinstance(value[1], tuple):
        return False
    pairs = list(combinations(list(steps), 2))
    if len(value[1]) != len(pairs):
        return False
    barred = []
    for pair, row in zip(pairs, value[1]):
        if not isinstance(row, tuple) or len(row) != 3 or not is_same(row[:2], pair):
            return False
        question = ("apart",) + pair
        if is_fitting(study.outline, row[2]):
            if answer_of_world(study.outline, row[2], question):
                return False
            barred.append(pair)
        elif leaf_answers(study.grown(), question, row[2]) != [True]:
            return False
    return is_same(value[0], placed(steps, barred))
