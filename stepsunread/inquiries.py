"""Answers in cases of which all logs have come to their end: trees of what is still open of a question."""

from stepsunread.answers import answer_in
from stepsunread.halts import Halt
from stepsunread.questions import names_log
from stepsunread.sweeping import settled

# Questions that hang on what is known of steps, and on what stands at the end of a log.
AT_THE_END = ("would", "fresh", "still", "swept", "sweeps", "turns", "aside")
# A work keeps so many trees, as the same ones are asked for again and again.
MOST_KEPT = 1000


class Asking:
    """Goes through the answers to a question in a case of which all logs have come to their end.

    The case is the caller's, and nobody else's: choices are made in it, and
    taken back again when all answers have been told.
    """

    def __init__(self, case, question):
        self.case = case
        self.question = question
        # (point, things, trees that have grown, what was remembered ahead) from the first point down.
        self.forks = []
        # The leaf that was told last.
        self.last = None
        # The tree, as soon as it is whole.
        self.built = None

    def next_answer(self):
        """A tuple of the next answer alone, which the case gives by its choices now; None if there are no more."""
        if self.last is not None:
            self.put(self.last)
        while self.built is None:
            try:
                answer = answer_in(self.case, self.question)
            except Halt as halt:
                self.fork_off(halt.point)
                continue
            self.last = ("gives", answer)
            return (answer,)
        return None

    def fork_off(self, point):
        """The first choice for the point."""
        choices = self.case.things(point)
        self.forks.append((point, choices, [], len(self.case.remembered)))
        self.case.try_out(point, choices[0])

    def put(self, tree):
        """The tree has grown at the place that is next."""
        while self.forks:
            point, choices, grown, many = self.forks[-1]
            grown.append(tree)
            self.case.forget(many)
            if len(grown) < len(choices):
                self.case.try_out(point, choices[len(grown)])
                return
            self.case.take_back(point)
            self.forks.pop()
            tree = ("at", point, tuple(grown))
        self.built = tree

    def path(self):
        """(point, thing) for each choice that was made here."""
        return [(point, choices[len(grown)]) for point, choices, grown, _ in self.forks]


def asked_by(case, question):
    """What the answers to the question hang on in a case of which all logs have come to their end.

    Cases of which it is the same give the same answers, by the same trees; () where that is not told.
    """
    word = question[0]
    if names_log(question) and word not in AT_THE_END:
        return ()
    # A tuple for each step, so that none of them is empty.
    known = tuple([tuple(told.items()) for told in case.known.values()])
    return known + settled(case, case.walk_of(question[1]).stand) if word in AT_THE_END else known


def keep(work, place, told):
    """Keep what was told, to be found again at this place."""
    if len(work.recalled) >= MOST_KEPT:
        work.recalled.clear()
    work.recalled[place] = told


class Search:
    """Looks for answers to a question, but those that are known; with a most, for no more than so many.

    found: by answers the case that gave it first. given: all answers that
    were given, known or not, as the keys of a dict.
    """

    def __init__(self, question, known=(), most=None):
        self.question = question
        self.known = known
        self.most = most
        self.found = {}
        self.given = {}

    def is_enough(self):
        """Whether enough were found."""
        return len(self.found) == self.most

    def is_new(self, answer):
        """Whether the answer was not found so far, and not known."""
        return answer not in self.found and answer not in self.known

    def ask(self, case, key):
        """The tree of answers in the case, of which asked_by tells the key; None if it was left off."""
        work = case.layout.work
        place = self.question, key
        if key and place in work.recalled:
            return self.ask_again(case, work.recalled[place])
        asking = Asking(case.copy(), self.question)
        paths = {}
        told = asking.next_answer()
        while told is not None:
            answer = told[0]
            if answer not in paths:
                paths[answer] = asking.path()
                self.given[answer] = True
                if self.is_new(answer):
                    self.found[answer] = asking.case.copy()
                    if self.is_enough():
                        return None
            told = asking.next_answer()
        if key:
            keep(work, place, (asking.built, paths))
        return asking.built

    def ask_again(self, case, told):
        """What ask tells, where the tree, and the choices that lead to each answer first, are told."""
        tree, paths = told
        for answer in paths:
            self.given[answer] = True
            if self.is_new(answer):
                beyond = case.copy()
                for point, thing in paths[answer]:
                    beyond.try_out(point, thing)
                self.found[answer] = beyond
                if self.is_enough():
                    return None
        return tree


def find_answers(leaves, question, known=(), most=None):
    """By answers that the leaves give, but those that are known, no more than so many: a case that gives it.

    leaves: a Growth, or what tells its leaves likewise.
    """
    search = Search(question, known, most)
    # What answers hang on, where it was asked for already.
    seen = {}
    at = 0
    case = leaves.leaf(0)
    while case is not None and not search.is_enough():
        key = asked_by(case, question)
        if not key or key not in seen:
            seen[key] = True
            search.ask(case, key)
        at += 1
        case = leaves.leaf(at)
    return search.found
