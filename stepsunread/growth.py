"""Growing trees: choices are made until each case is shut, or gives an answer."""

from stepsunread.cases import empty_case


# Of a growth the trees of so many questions are known, and so many of each.
MOST_QUESTIONS = 64
MOST_TREES = 3


class Fork:
    """A point of a tree, and the case in which its things are chosen one by one."""

    def __init__(self, point, choices, marks, case):
        self.point = point
        self.choices = choices
        # For each thing the mark of the event that shuts it at once, or None.
        self.marks = marks
        self.case = case
        # How many things have been gone through, and how many of the others are not shut at once.
        self.reached = 0
        self.many = marks.count(None)

    def next_case(self):
        """The case behind the next thing that is not shut at once."""
        while self.marks[self.reached] is not None:
            self.reached += 1
        thing = self.choices[self.reached]
        self.reached += 1
        self.many -= 1
        # The case itself goes on with the last one.
        case = self.case.copy() if self.many else self.case
        case.choose(self.point, thing)
        return case


class Growth:
    """Grows a tree for a layout: cases are the ones of its leaves that fit, as far as they were asked for."""

    def __init__(self, layout):
        self.layout = layout
        self.cases = []
        # The forks from the first one down, a stack of its own: trees grow deeper than calls should.
        self.forks = []
        # What has been built, from below: leaves that are shut, None for each that fits, (point, marks) of forks.
        self.built = []
        self.is_done = False
        # See numbered.
        self.plain = None
        # By questions: (tree, answers that it gives) of trees that are known.
        self.known = {}

    def leaf(self, at):
        """The case of the leaf of this number that fits, None if there are not so many."""
        if not self.built and not self.forks:
            case = empty_case(self.layout)
            case.is_hasty = True
            case.go()
            self.take(case)
        while len(self.cases) <= at and not self.is_done:
            self.take(self.forks[-1].next_case())
        return self.cases[at] if at < len(self.cases) else None

    def all_cases(self):
        """The cases of all leaves that fit."""
        while self.leaf(len(self.cases)) is not None:
            continue
        return self.cases

    def take(self, case):
        """The case is a leaf, or a fork comes there."""
        for point, choices, marks in case.decided:
            fork = Fork(point, choices, marks, case)
            # The case has gone on with the only thing that is not shut at once.
            fork.many = 0
            self.forks.append(fork)
        case.decided = []
        points = [] if case.wrong else case.halts()
        if points:
            self.forks.append(best_fork(case, points))
        elif case.wrong:
            self.built.append(("shut",) + case.wrong[0])
        else:
            self.built.append(None)
            case.is_hasty = False
            self.cases.append(case)
        while self.forks and self.forks[-1].many == 0:
            fork = self.forks.pop()
            self.built.append((fork.point, fork.marks))
        self.is_done = not self.forks

    def numbered(self):
        """The tree, whole, with ("leaf", number) in the places of leaves that fit."""
        if self.plain is None:
            self.plain = self.tree([("leaf", at) for at in range(len(self.all_cases()))])
        return self.plain

    def known_trees(self, question):
        """(tree, answers that it gives) for trees of the question that are known."""
        return self.known.get(question, ())

    def note_tree(self, question, tree, answers):
        """The tree, for the question, is known, and gives these answers."""
        if len(self.known) == MOST_QUESTIONS:
            self.known.clear()
        self.known[question] = ((tree, answers),) + self.known_trees(question)[:MOST_TREES - 1]

    def tree(self, leaves):
        """The tree, whole, with these trees in the places of leaves that fit, of which there are as many."""
        built = []
        many = 0
        for row in self.built:
            if row is None:
                built.append(leaves[many])
                many += 1
            elif row[0] == "shut":
                built.append(row)
            else:
                point, marks = row
                first = len(built) - marks.count(None)
                trees = with_shut(marks, built[first:])
                del built[first:]
                built.append(("at", point, trees))
        return built[0]


def with_shut(marks, trees):
    """The trees, each in the place of a None among the marks, and leaves that are shut by the marks in theirs."""
    row = []
    at = 0
    for mark in marks:
        if mark is None:
            row.append(trees[at])
            at += 1
        else:
            row.append(("shut",) + mark)
    return tuple(row)


def best_fork(case, points):
    """The fork at the point at which the fewest things are left."""
    best = None
    for point in points:
        if point in case.asked:
            choices, marks = case.asked[point]
        else:
            choices = case.things(point)
            marks = case.barring(point, choices)
        fork = Fork(point, choices, marks, case)
        if best is None or fork.many < best.many:
            best = fork
        if best.many < 2:
            break
    return best
