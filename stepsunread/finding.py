"""What the leaves of trees tell of the worlds that fit: answers, numbers, sure facts."""

from stepsunread.answers import answer_in
from stepsunread.errors import NoWorld, NotSure
from stepsunread.growth import Growth
from stepsunread.layouts import Layout
from stepsunread.making import case_of_world, some_world
from stepsunread.wording import by_text


class Finding(Growth):
    """Finds the answers of worlds that fit, but those that are known; with a most, no more than so many."""

    def __init__(self, layout, question, known=(), most=None):
        Growth.__init__(self, layout, question)
        self.known = known
        self.most = most
        # By answers: the case that gave it first.
        self.found = {}

    def give(self, case, answer):
        """A leaf gives this answer."""
        if answer not in self.found and answer not in self.known:
            self.found[answer] = case
            if len(self.found) == self.most:
                self.is_done = True

    def answer_rows(self):
        """(answer, world) for each answer that was found, ascending by the texts of the answers."""
        answers = by_text(self.question, list(self.found))
        return tuple([(answer, some_world(self.found[answer])) for answer in answers])


class Counting(Growth):
    """Counts the worlds that fit, by the answers that they give."""

    def __init__(self, layout, question):
        Growth.__init__(self, layout, question)
        self.counts = {}

    def give(self, case, answer):
        """A leaf gives this answer."""
        self.counts[answer] = self.counts.get(answer, 0) + worlds_of(case)


def worlds_of(case):
    """How many worlds there are of a case in which all logs have come to their end."""
    layout = case.layout
    total = 1
    for step in layout.work.steps:
        total = total * layout.count(step, case.known[step])
    for number in layout.first_logs():
        for file, point in zip(layout.work.files, layout.first_stand(number)):
            if point not in case.chosen:
                total = total * layout.work.widths[file]
    for mark, told in layout.hands.items():
        if not isinstance(told, int) and told not in case.chosen:
            total = total * layout.work.widths[layout.book[mark[0]][mark[1]][1]]
    return total


def has_world(work, book):
    """Whether some world fits."""
    finding = Finding(Layout(work, book, ()), None, (), 1)
    finding.grow()
    return len(finding.found) > 0


def answers_of(work, book, question):
    """The answers of worlds that fit, ascending by their texts."""
    finding = Finding(Layout(work, book, ()), question)
    finding.grow()
    return tuple(by_text(question, list(finding.found)))


def only_answer(work, book, question):
    """The only answer of worlds that fit: NotSure, NoWorld."""
    answers = answers_of(work, book, question)
    if not answers:
        raise NoWorld(None)
    if len(answers) > 1:
        raise NotSure(answers)
    return answers[0]


def answer_of_world(work, book, world, question):
    """The answer that the world gives."""
    return answer_in(case_of_world(work, book, world), question)
