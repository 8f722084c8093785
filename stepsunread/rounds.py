"""In how few rounds steps may run side by side."""

from itertools import combinations

from stepsunread.books import is_book
from stepsunread.errors import BadBook, BadSteps, NoWorld
from stepsunread.finding import Finding, answer_of_world, has_world
from stepsunread.layouts import Layout
from stepsunread.looking import is_same, leaf_answers
from stepsunread.making import some_world
from stepsunread.worlds import is_fitting


def check_rounds(work, book, steps):
    """BadBook, BadSteps, NoWorld."""
    if not is_book(work, book):
        raise BadBook(book)
    if not are_steps(work, steps):
        raise BadSteps(steps)
    if not has_world(work, book):
        raise NoWorld(None)


def are_steps(work, value):
    """Whether the value is a tuple of different steps."""
    if not isinstance(value, tuple) or not all([step in work.steps for step in value]):
        return False
    return all([step not in value[:at] for at, step in enumerate(value)])


def placed(steps, barred):
    """The rounds, if the pairs that are barred do not stand in one: each step as early as can be."""
    levels = {}
    for at, step in enumerate(steps):
        ahead = [levels[other] + 1 for other in steps[:at] if (other, step) in barred]
        levels[step] = max(ahead, default=0)
    many = max(list(levels.values()), default=-1) + 1
    return tuple([tuple([step for step in steps if levels[step] == level]) for level in range(many)])


def rounds(work, book, steps):
    """(rounds, rows): as few rounds as can be, and why: BadBook, BadSteps, NoWorld."""
    check_rounds(work, book, steps)
    rows, barred = [], []
    for step, other in combinations(list(steps), 2):
        finding = Finding(Layout(work, book, ()), ("apart", step, other), (True,), 1)
        grown = finding.grow()
        if finding.found:
            barred.append((step, other))
            grown = some_world(finding.found[False])
        rows.append((step, other, grown))
    return placed(steps, barred), tuple(rows)


def shows_rounds(work, book, steps, value):
    """Whether the value is what rounds could tell: BadBook, BadSteps, NoWorld."""
    check_rounds(work, book, steps)
    if not isinstance(value, tuple) or len(value) != 2 or not isinstance(value[1], tuple):
        return False
    pairs = list(combinations(list(steps), 2))
    if len(value[1]) != len(pairs):
        return False
    barred = []
    for pair, row in zip(pairs, value[1]):
        if not isinstance(row, tuple) or len(row) != 3 or not is_same(row[:2], pair):
            return False
        question = ("apart",) + pair
        if is_fitting(work, book, row[2]):
            if answer_of_world(work, book, row[2], question):
                return False
            barred.append(pair)
        elif leaf_answers(Layout(work, book, ()), question, row[2]) != [True]:
            return False
    return is_same(value[0], placed(steps, barred))
