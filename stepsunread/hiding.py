"""Worlds that no acts ever tell apart."""

from stepsunread.errors import BadLog, BadQuestion, NoWorld
from stepsunread.forms import is_stand
from stepsunread.goals import answers_in, last_stands
from stepsunread.halts import Halt
from stepsunread.machines import left_by, run_of
from stepsunread.making import some_world
from stepsunread.outlooks import cases_to_act_on
from stepsunread.probing import come, is_log_to_act_on, prepared, writings
from stepsunread.questions import is_asked
from stepsunread.studies import study_of
from stepsunread.witnesses import answer_of_world, end_stand, is_fitting


def check_hidden(work, book, log, question):
    """(study, cases that part all worlds that fit): BadBook, BadLog, BadQuestion, NoWorld."""
    study = study_of(work, book)
    if not is_log_to_act_on(book, log):
        raise BadLog(log)
    if not is_asked(work, book, question):
        raise BadQuestion(question)
    cases = cases_to_act_on(study, log, (question,))
    if not cases:
        raise NoWorld(None)
    return study, cases


def probes_of(work):
    """All probes that write."""
    return [("probe", contents, step) for contents in writings(work) for step in work.steps]


class Group:
    """Worlds that were not told apart so far: cases, and the stands to which acts can lead."""

    def __init__(self, cases, stands, done):
        self.cases = cases
        self.stands = stands
        # How many probes were looked at, of all that can be made at one stand, at the next one, and so on.
        self.done = done

    def parted(self, probes):
        """The groups into which the next probe parts the worlds; None if there is no other probe."""
        if self.done == len(self.stands) * len(probes):
            return None
        stand, probe = self.stands[self.done // len(probes)], probes[self.done % len(probes)]
        found = {}
        ahead = list(self.cases)
        while ahead:
            case = ahead.pop()
            try:
                outcome, beyond = come(case, probe, stand)
            except Halt as halt:
                ahead += case.branches(halt.point)
                continue
            stands = self.stands if beyond in self.stands else self.stands + (beyond,)
            found.setdefault(outcome, Group([], stands, self.done + 1)).cases.append(case)
        return list(found.values())


def first_groups(cases, number):
    """The groups of worlds in which the log ends alike."""
    groups = {}
    for case in cases:
        for stand, told in last_stands([case], number).items():
            groups.setdefault(stand, Group([], (stand,), 0)).cases.append(told)
    return list(groups.values())


def hidden(work, book, log, question):
    """(world, other, stands) of two worlds never told apart that give unlike answers, None if there are none.

    BadBook, BadLog, BadQuestion, NoWorld.
    """
    study, cases = check_hidden(work, book, log, question)
    return study.tell(("hidden", log, question), pair_hidden(work, cases, log, question))


def pair_hidden(work, cases, log, question):
    """What hidden tells."""
    probes = probes_of(work)
    ahead = first_groups(cases, log)
    while ahead:
        group = ahead.pop()
        found = answers_in(group.cases, question, 2)
        if len(found) < 2:
            continue
        groups = [group]
        # As long as nothing is told apart, the answers stay unlike.
        while len(groups) == 1:
            group = groups[0]
            groups = group.parted(probes)
            if groups is None:
                one, other = list(answers_in(group.cases, question, 2).values())
                return some_world(one), some_world(other), tuple(sorted(group.stands))
        ahead += groups
    return None


def shows_hidden(work, book, log, question, value):
    """Whether the value is what hidden could tell, with any stands: BadBook, BadLog, BadQuestion, NoWorld."""
    study, cases = check_hidden(work, book, log, question)
    outline = study.outline
    if study.was_told(("hidden", log, question), value):
        return True
    if value is None:
        return pair_hidden(work, cases, log, question) is None
    if not isinstance(value, tuple) or len(value) != 3 or not isinstance(value[2], tuple):
        return False
    world, other, stands = value
    if not is_fitting(outline, world) or not is_fitting(outline, other):
        return False
    if not all([is_stand(work, stand) for stand in stands]):
        return False
    if any([stand >= later for stand, later in zip(stands, stands[1:])]):
        return False
    end = end_stand(outline, world, log)
    # Looks show all files: worlds in which the log ends unlike are told apart, whatever the stands are.
    if end not in stands or end != end_stand(outline, other, log):
        return False
    if not is_shut(work, world[0], other[0], stands):
        return False
    return answer_of_world(outline, world, question) != answer_of_world(outline, other, question)


def is_shut(work, crew, other, stands):
    """Whether both crews do the same at the stands behind each writing of the sources, and lead to no other stands."""
    for stand in stands:
        for probe in probes_of(work):
            begin = prepared(work, probe, stand)
            told = run_of(work, crew, probe[2], begin)
            if told != run_of(work, other, probe[2], begin):
                return False
            if left_by(work, probe[2], begin, told[1]) not in stands:
                return False
    return True
