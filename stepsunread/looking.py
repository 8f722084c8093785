"""Looking at values that may be trees."""

from stepsunread.answers import answer_in
from stepsunread.cases import case_at
from stepsunread.forms import is_integer, is_same, string_of
from stepsunread.halts import Halt
from stepsunread.inquiries import asked_by

# Questions about sweeps.
SWEEPING = ("swept", "sweeps", "turns", "rests")
# How points that are no points of steps begin, as strings.
SIGNS = ("('first'", "('hand'", "('weave'")


def is_node(value, word, many):
    """Whether the value is a tuple of so many items that begins with the word."""
    return isinstance(value, tuple) and len(value) == many and isinstance(value[0], str) and value[0] == word


def is_fork(value, told):
    """Whether the value begins with the point of this tree, and has as many trees behind it."""
    if told[0] != "at" or not is_node(value, "at", 3):
        return False
    return isinstance(value[2], tuple) and len(value[2]) == len(told[2]) and is_same(value[1], told[1])


class Reader:
    """Reads a value that may be a tree, for a question (or None).

    growth: the tree without the question. found: the answers that leaves of
    the value give, each once, as far as they were looked at.
    """

    def __init__(self, growth, question):
        self.growth = growth
        self.question = question
        self.found = []
        # By what answers hang on, and by parts of the value, as strings: whether they are parts of a tree.
        self.seen = {}

    def takes_beside(self, value, told):
        """Whether the value is a tree, as another one is that is told: a known one, or the one that has grown."""
        # As long as both are alike, nothing has to be worked out. What is ahead: values, parts of the tree that is
        # told, and the choices that lead there: a stack, as trees may be deeper than calls should be.
        ahead = [(value, told, ())]
        while ahead:
            value, told, path = ahead.pop()
            if is_fork(value, told):
                pairs = list(zip(value[2], told[2]))
                ahead += [(tree, other, (path, told[1], at)) for at, (tree, other) in enumerate(pairs)]
            elif told[0] == "leaf":
                if not self.takes_behind(told[1], value):
                    return False
            elif told[0] == "at" or not is_same(value, told):
                if not self.takes_from(case_at(self.growth.layout, path), value):
                    return False
        return True

    def takes_behind(self, number, value):
        """Whether the value is a tree from the leaf of this number on, of the tree that has grown."""
        case = self.growth.leaf(number)
        key = () if self.question is None else asked_by(case, self.question)
        text = string_of(value)
        # Whether other points than those of steps are open does not hang on the key alone.
        if not key or any([sign in text for sign in SIGNS]):
            return self.takes_answers(case.copy(), value)
        if (key, text) not in self.seen:
            self.seen[key, text] = self.takes_answers(case.copy(), value)
        return self.seen[key, text]

    def takes_from(self, case, value):
        """Whether the value is a tree from the case on."""
        ahead = [(value, case)]
        while ahead:
            value, case = ahead.pop()
            if case.is_worked_out():
                if not self.takes_answers(case, value):
                    return False
            elif is_node(value, "at", 3):
                branches = branches_of(case, value)
                if branches is None:
                    return False
                ahead += branches
            elif not is_shut_leaf(case, value):
                return False
        return True

    def takes_answers(self, case, value):
        """Whether the value is a tree from here on, all logs of the case having come to their end."""
        # What is ahead: (how much was remembered, tree, point, thing) where a choice comes first, without the last
        # two at the beginning, and (how much, point) where a choice is taken back.
        ahead = [(len(case.remembered), value, None)]
        while ahead:
            row = ahead.pop()
            case.forget(row[0])
            if len(row) == 2:
                case.take_back(row[1])
                continue
            if len(row) == 4:
                case.try_out(row[2], row[3])
            if is_node(row[1], "at", 3):
                rows = choices_of(case, row[1])
                if rows is None:
                    return False
                self.work_out(case)
                many = len(case.remembered)
                ahead.append((many, row[1][1]))
                ahead += [(many,) + choice for choice in rows]
            elif not self.takes_leaf(case, row[1]):
                return False
        return True

    def work_out(self, case):
        """What is known of sweeps by the choices so far is remembered, as long as they stay."""
        if self.question is not None and self.question[0] in SWEEPING:
            try:
                answer_in(case, self.question)
            except Halt:
                return

    def takes_leaf(self, case, value):
        """Whether the value is a leaf where all logs of the case have come to their end."""
        if not is_node(value, "gives", 2):
            return is_shut_leaf(case, value)
        if case.wrong:
            return False
        answer = None
        if self.question is not None:
            try:
                answer = answer_in(case, self.question)
            except Halt:
                return False
        if not is_same(value[1], answer):
            return False
        if answer not in self.found:
            self.found.append(answer)
        return True


def choices_of(case, value):
    """(tree, point, thing) for each tree at a point; None if this is no part of a tree."""
    _, point, trees = value
    if not isinstance(trees, tuple) or not case.is_open(point):
        return None
    things = case.things(point)
    return [(tree, point, thing) for tree, thing in zip(trees, things)] if len(trees) == len(things) else None


def branches_of(case, value):
    """(tree, case) for each tree at a point, but those that are seen to be shut; None if this is no part of a tree."""
    rows = choices_of(case, value)
    if rows is None:
        return None
    point = value[1]
    if point in case.halts():
        marks = case.barring(point, [row[2] for row in rows])
        rows = [row for row, mark in zip(rows, marks) if mark is None or not is_same(row[0], ("shut",) + mark)]
    found = [(tree, case.with_choice(point, thing)) for tree, _, thing in rows[1:]]
    if rows:
        case.choose(point, rows[0][2])
        found.append((rows[0][0], case))
    return found


def is_shut_leaf(case, value):
    """Whether the value shuts the case by an event that is wrong."""
    if not is_node(value, "shut", 3) or not is_integer(value[1]) or not is_integer(value[2]):
        return False
    return value[1:] in case.wrong


def known_like(growth, question, value):
    """(tree, answers that it gives), a tree that is known and begins as the value does; None if there is none."""
    for tree, answers in growth.known_trees(question):
        if is_fork(value, tree):
            return tree, answers
    return None


def leaf_answers(growth, question, value):
    """The answers that leaves of the tree give, each once; None if the value is no tree.

    growth: the tree without the question.
    """
    reader = Reader(growth, question)
    # All trees give the same answers: those of worlds that fit.
    tree, answers = known_like(growth, question, value) or (growth.numbered(), reader.found)
    if not reader.takes_beside(value, tree):
        return None
    growth.note_tree(question, value, answers)
    return answers
