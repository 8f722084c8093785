"""Goals of acts: what they are, and why they are not reached.

Cases part all worlds that fit; all their logs have come to their end.
"""

from stepsunread.forms import all_rows, is_same
from stepsunread.inquiries import find_answers
from stepsunread.machines import left_by, written
from stepsunread.questions import is_asked
from stepsunread.sweeping import settled


def is_goal(work, book, value):
    """Whether the value is a goal, asked of the book."""
    if not isinstance(value, tuple) or not value or not isinstance(value[0], str):
        return False
    if value[0] == "all":
        return len(value) == 1
    if value[0] not in ("know", "have") or len(value) != (2 if value[0] == "know" else 3):
        return False
    return is_asked(work, book, value[1])


class Leaves:
    """Cases that part all worlds that fit, one by one."""

    def __init__(self, cases):
        self.cases = cases

    def leaf(self, at):
        """The case of this number, None if there are not so many."""
        return self.cases[at] if at < len(self.cases) else None


def answers_in(cases, question, most):
    """By answers that the cases give, no more than so many: a case that gives it."""
    return find_answers(Leaves(cases), question, (), most)


def doubt_of(cases, number, goal):
    """Why the goal is not reached behind the log of this number: cases, and what hints tell behind them.

    None where it is reached.
    """
    if goal[0] == "all":
        return doubt_of_all(cases, number)
    found = answers_in(cases, goal[1], 2)
    if goal[0] == "know":
        return None if len(found) == 1 else (list(found.values()), ())
    others = [found[answer] for answer in found if not is_same(goal[2], answer)]
    return (others[:1], ()) if others else None


def last_stands(cases, number):
    """By stands at the end of the log: a case in which it ends so."""
    found = {}
    for case in cases:
        stand = settled(case, case.walk_of(number).stand)
        points = [told for told in stand if not isinstance(told, int)]
        sizes = [len(case.things(point)) for point in points]
        for contents in all_rows(sizes):
            told = dict(zip(points, contents))
            row = tuple([told.get(content, content) for content in stand])
            if row not in found:
                found[row] = case.with_choices(told)
    return found


def next_stands(work, stand):
    """The stands to which the set of one source leads."""
    rows = []
    for file in work.sources:
        rows += [written(work, stand, (file,), (content,)) for content in range(work.widths[file])]
    return rows


def doubt_of_all(cases, number):
    """Two cases, and the stand and the step at which their runs are unlike; None if there are none."""
    work = cases[0].layout.work
    origins = last_stands(cases, number)
    ahead = list(origins)
    while ahead:
        stand = ahead.pop()
        beyond = next_stands(work, stand)
        for step in work.steps:
            found = answers_in(cases, ("run", step, stand), 2)
            if len(found) > 1:
                # All runs so far are alike in all worlds: so each one that begins there comes to the stand.
                told, case = list(answers_in([origins[stand]], ("run", step, stand), 1).items())[0]
                others = [found[other] for other in found if other != told]
                return [case, others[0]], (stand, step)
            beyond.append(left_by(work, step, stand, list(found)[0][1]))
        for other in beyond:
            if other not in origins:
                origins[other] = origins[stand]
                ahead.append(other)
    return None
