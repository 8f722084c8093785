"""Looking at values that may be trees."""

from stepsunread.answers import answer_in
from stepsunread.cases import new_case
from stepsunread.forms import is_integer
from stepsunread.halts import Halt


def is_same(value, told):
    """Whether the value is just what is told: True is not 1, and a list no tuple."""
    if isinstance(told, tuple):
        if not isinstance(value, tuple) or len(value) != len(told):
            return False
        return all([is_same(item, part) for item, part in zip(value, told)])
    if isinstance(told, bool) or isinstance(value, bool):
        return isinstance(told, bool) and isinstance(value, bool) and value == told
    return value == told


def leaf_answers(layout, question, value):
    """The answers that leaves of the tree give, each once; None if the value is no tree."""
    case = new_case(layout)
    case.go()
    answers = []
    # A stack of its own, as trees may be deeper than calls should be.
    ahead = [(value, case)]
    while ahead:
        value, case = ahead.pop()
        if not isinstance(value, tuple) or not value or not isinstance(value[0], str):
            return None
        if value[0] == "at":
            branches = branches_of(case, value)
            if branches is None:
                return None
            ahead += branches
        elif value[0] == "gives":
            if not is_answer_leaf(case, question, value):
                return None
            if value[1] not in answers:
                answers.append(value[1])
        elif not is_shut_leaf(case, value):
            return None
    return answers


def branches_of(case, value):
    """(tree, case) for each tree at a point; None if this is no part of a tree."""
    if len(value) != 3 or not isinstance(value[2], tuple) or not case.is_open(value[1]):
        return None
    _, point, trees = value
    things = case.things(point)
    if len(trees) != len(things):
        return None
    return [(branch, case.with_choice(point, thing)) for branch, thing in zip(trees, things)]


def is_shut_leaf(case, value):
    """Whether the value shuts the case by an event that is wrong."""
    if len(value) != 3 or value[0] != "shut" or not is_integer(value[1]) or not is_integer(value[2]):
        return False
    return value[1:] in case.wrong


def is_answer_leaf(case, question, value):
    """Whether all is worked out and fits, and the value tells the answer that the question has then."""
    if len(value) != 2 or case.wrong or not case.is_worked_out():
        return False
    if question is None:
        return value[1] is None
    try:
        return is_same(value[1], answer_in(case, question))
    except Halt:
        return False
