"""Growing trees: choices are made until each case is shut, or gives an answer."""

from stepsunread.answers import answer_in
from stepsunread.cases import new_case
from stepsunread.halts import Halt


class Fork:
    """A point with the cases behind its choices, and the trees that have grown from the first ones."""

    def __init__(self, point, cases):
        self.point = point
        self.cases = cases
        self.grown = []


class Growth:
    """Grows a tree for a layout and a question (or None), leaf by leaf.

    What is to be known of leaves that give an answer is told by classes below, by their give.
    """

    def __init__(self, layout, question):
        self.layout = layout
        self.question = question
        # Set where no more leaves are needed.
        self.is_done = False

    def give(self, case, answer):
        """A leaf gives this answer."""

    def grow(self):
        """The tree; None where it was left off."""
        case = new_case(self.layout)
        case.go()
        # A stack of its own, as trees grow deeper than calls should.
        forks = [Fork(None, [case])]
        while not self.is_done:
            fork = forks[-1]
            if len(fork.grown) < len(fork.cases):
                forks.append(self.go_on(fork.cases[len(fork.grown)]))
                if forks[-1].point is None:
                    leaf = forks.pop()
                    fork.grown += leaf.grown
                continue
            forks.pop()
            if not forks:
                return fork.grown[0]
            forks[-1].grown.append(("at", fork.point, tuple(fork.grown)))
        return None

    def go_on(self, case):
        """The fork behind the case, or a leaf: one without a point that has grown already."""
        if case.wrong:
            return self.leaf(("shut",) + case.wrong[0])
        points = case.halts()
        if points:
            return self.best_fork(case, points)
        answer = None
        if self.question is not None:
            try:
                answer = answer_in(case, self.question)
            except Halt as halt:
                return self.fork(case, halt.point)
        self.give(case, answer)
        return self.leaf(("gives", answer))

    def leaf(self, tree):
        """What has grown already."""
        fork = Fork(None, [])
        fork.grown.append(tree)
        return fork

    def fork(self, case, point):
        """The fork at the point."""
        return Fork(point, [case.with_choice(point, thing) for thing in case.things(point)])

    def best_fork(self, case, points):
        """The fork at the point behind which the fewest cases are left."""
        best, fewest = None, 0
        for point in points:
            fork = self.fork(case, point)
            left = len([beyond for beyond in fork.cases if not beyond.wrong])
            if best is None or left < fewest:
                best, fewest = fork, left
            if fewest < 2:
                break
        return best
