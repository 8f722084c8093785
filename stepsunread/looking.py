"""Looking at values that may be trees."""

from stepsunread.answers import answer_in
from stepsunread.cases import new_case
from stepsunread.forms import is_integer
from stepsunread.inquiries import asked_by
from stepsunread.halts import Halt


# How points that are no points of steps begin, as strings.
SIGNS = ("('first'", "('hand'", "('weave'")


def is_same(value, told):
    """Whether the value is just what is told: True is not 1, and a list no tuple."""
    if isinstance(told, tuple):
        if not isinstance(value, tuple) or len(value) != len(told):
            return False
        return all([is_same(item, part) for item, part in zip(value, told)])
    if isinstance(told, bool) or isinstance(value, bool):
        return isinstance(told, bool) and isinstance(value, bool) and value == told
    return value == told


class Reader:
    """Reads a value that may be a tree, for a layout and a question (or None).

    found: the answers that its leaves give, each once.
    """

    def __init__(self, layout, question):
        self.layout = layout
        self.question = question
        self.found = []

    def takes(self, value):
        """Whether the value is a tree."""
        # A stack of its own, as trees may be deeper than calls should be. Nobody else has the cases on it.
        ahead = [(value, new_case(self.layout))]
        while ahead:
            value, case = ahead.pop()
            if case.is_worked_out():
                if not self.takes_answers(case, value):
                    return False
            elif is_node(value, "at", 3):
                branches = branches_of(case, value)
                if branches is None:
                    return False
                ahead += branches
            elif not is_shut_leaf(case, value):
                return False
        return True

    def takes_answers(self, case, value):
        """Whether the value is a tree from here on, all logs of the case having come to their end."""
        # What is ahead: a tree, (tree, point, thing) where a choice comes first, (None, point) where it is taken back.
        ahead = [(value,)]
        while ahead:
            row = ahead.pop()
            case.forget(0)
            if len(row) == 2:
                case.take_back(row[1])
                continue
            if len(row) == 3:
                case.try_out(row[1], row[2])
            if is_node(row[0], "at", 3):
                rows = choices_of(case, row[0])
                if rows is None:
                    return False
                ahead.append((None, row[0][1]))
                ahead += rows
            elif not self.takes_leaf(case, row[0]):
                return False
        return True

    def takes_leaf(self, case, value):
        """Whether the value is a leaf where all logs of the case have come to their end."""
        if not is_node(value, "gives", 2):
            return is_shut_leaf(case, value)
        if case.wrong:
            return False
        answer = None
        if self.question is not None:
            try:
                answer = answer_in(case, self.question)
            except Halt:
                return False
        if not is_same(value[1], answer):
            return False
        if answer not in self.found:
            self.found.append(answer)
        return True


def is_node(value, word, many):
    """Whether the value is a tuple of so many items that begins with the word."""
    return isinstance(value, tuple) and len(value) == many and isinstance(value[0], str) and value[0] == word


def choices_of(case, value):
    """(tree, point, thing) for each tree at a point; None if this is no part of a tree."""
    _, point, trees = value
    if not isinstance(trees, tuple) or not case.is_open(point):
        return None
    things = case.things(point)
    return [(tree, point, thing) for tree, thing in zip(trees, things)] if len(trees) == len(things) else None


def branches_of(case, value):
    """(tree, case) for each tree at a point, but those that are seen to be shut; None if this is no part of a tree."""
    rows = choices_of(case, value)
    if rows is None:
        return None
    point = value[1]
    if point in case.halts():
        marks = case.barring(point, [row[2] for row in rows])
        rows = [row for row, mark in zip(rows, marks) if mark is None or not is_same(row[0], ("shut",) + mark)]
    found = [(tree, case.with_choice(point, thing)) for tree, _, thing in rows[1:]]
    if rows:
        case.choose(point, rows[0][2])
        found.append((rows[0][0], case))
    return found


def is_shut_leaf(case, value):
    """Whether the value shuts the case by an event that is wrong."""
    if not is_node(value, "shut", 3) or not is_integer(value[1]) or not is_integer(value[2]):
        return False
    return value[1:] in case.wrong


def leaves_of(growth, value):
    """(case, tree) for each leaf of the tree that has grown, if the value is like it but for what is behind leaves.

    None if it is not.
    """
    rows = []
    ahead = [(value, growth.numbered())]
    while ahead:
        value, told = ahead.pop()
        if told[0] == "leaf":
            rows.append((growth.leaf(told[1]), value))
        elif told[0] == "shut":
            if not is_same(value, told):
                return None
        else:
            if not is_node(value, "at", 3) or not is_same(value[1], told[1]):
                return None
            if not isinstance(value[2], tuple) or len(value[2]) != len(told[2]):
                return None
            ahead += list(zip(value[2], told[2]))
    return rows


def leaf_answers(growth, question, value):
    """The answers that leaves of the tree give, each once; None if the value is no tree.

    growth: the tree without the question.
    """
    reader = Reader(growth.layout, question)
    rows = leaves_of(growth, value)
    if rows is None:
        # Points may come in any sequence: it may still be another tree.
        return reader.found if reader.takes(value) else None
    seen = {}
    for case, tree in rows:
        key = () if question is None else asked_by(case, question)
        text = repr(tree) if key else ""
        # Whether other points than those of steps are open does not hang on the key alone.
        if any([sign in text for sign in SIGNS]):
            key = ()
        if key and (key, text) in seen:
            continue
        if not reader.takes_answers(case.copy(), tree):
            return None
        seen[key, text] = True
    return reader.found
