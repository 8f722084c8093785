"""What the leaves of trees tell of the worlds that fit: answers, and how many worlds there are."""

from stepsunread.errors import NoWorld, NotSure
from stepsunread.inquiries import Asking, Search, asked_by, keep
from stepsunread.making import some_world
from stepsunread.wording import by_text


class Finding:
    """Finds the answers of worlds that fit, but those that are known; with a most, no more than so many.

    growth: the tree without the question.
    """

    def __init__(self, growth, question, known=(), most=None):
        self.growth = growth
        self.search = Search(question, known, most)
        # By answers: the case that gave it first.
        self.found = self.search.found

    def grow(self):
        """The tree; None where it was left off."""
        leaves = []
        case = self.growth.leaf(0)
        while case is not None:
            grown = self.tree_behind(case)
            if self.search.is_enough():
                return None
            leaves.append(grown)
            case = self.growth.leaf(len(leaves))
        tree = self.growth.tree(leaves)
        self.growth.note_tree(self.search.question, tree, list(self.search.given))
        return tree

    def tree_behind(self, case):
        """The tree that tells the answers in the case of a leaf."""
        if self.search.question is not None:
            return self.search.ask(case, asked_by(case, self.search.question))
        self.search.given[None] = True
        if None not in self.search.known:
            self.found.setdefault(None, case)
        return "gives", None

    def answer_rows(self):
        """(answer, world) for each answer that was found, ascending by the texts of the answers."""
        answers = by_text(self.search.question, list(self.found))
        return tuple([(answer, some_world(self.found[answer])) for answer in answers])


def tree_of(growth, question):
    """The tree for a question, or None."""
    finding = Finding(growth, question)
    return finding.grow()


def programs_of(case):
    """How many crews there are in a case."""
    total = 1
    for step in case.layout.work.steps:
        total = total * case.layout.count(step, case.known[step])
    return total


def contents_of(case):
    """How many ways there are for contents that were not chosen in a case."""
    layout = case.layout
    total = layout.all_contents()
    for point in case.chosen:
        total = total // layout.many_contents(point)
    return total


def shares_of(case, question):
    """(answer, crews, part) for all answers that the case gives: for one of so many parts of the contents."""
    work = case.layout.work
    key = asked_by(case, question)
    place = "shares", question, key
    if key and place in work.recalled:
        return work.recalled[place]
    asking = Asking(case.copy(), question)
    whole = contents_of(case)
    rows = []
    told = asking.next_answer()
    while told is not None:
        rows.append((told[0], programs_of(asking.case), whole // contents_of(asking.case)))
        told = asking.next_answer()
    if key:
        keep(work, place, rows)
    return rows


def only_answer(study, question):
    """The only answer of worlds that fit: NotSure, NoWorld."""
    answers = study.answers(question)
    if not answers:
        raise NoWorld(None)
    if len(answers) > 1:
        raise NotSure(answers)
    return answers[0]
