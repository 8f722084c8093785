"""Answers to questions, as far as choices for a book lead.

Each function of the table tells the answer to a question in a case of which
all logs have come to their end; it raises Halt if the question is not known
there.
"""

from stepsunread.forms import content_at
from stepsunread.halts import Halt
from stepsunread.machines import written
from stepsunread.sweeping import Sweeps, is_fresh, rests_everywhere
from stepsunread.walks import Walk
from stepsunread.ways import can_go_beside, can_meet, run_from, ways_down


def last_stand(case, number):
    """The stand at the end of the log."""
    return case.walk_of(number).stand


def stood(case, question):
    """A content behind so many events of a log."""
    _, number, moment, file = question
    stand = case.walk_of(number).row(number, moment)[0]
    return case.content(content_at(case.layout.work, stand, file))


def ran(case, question):
    """(way, end) of a run of a log."""
    _, number, at = question
    return case.walk_of(number).run_at(number, at)


def wrote(case, question):
    """The mark of the event by which a content came to be written."""
    _, number, moment, file = question
    writers = case.walk_of(number).row(number, moment)[1]
    return content_at(case.layout.work, writers, file)


def had(case, question):
    """A content at the end of a log, if a hand had written another one."""
    _, number, at, content, file = question
    told = case.walk_of(number)
    stand, writers = told.first
    walk = Walk(case.layout, told.numbers, stand, writers)
    walk.begin()
    walk.changed = {(number, at): content}
    walk.go(case)
    if walk.halt is not None:
        raise Halt(walk.halt)
    return case.content(content_at(case.layout.work, walk.stand, file))


def does(case, question):
    """What a program does behind a way, None if it does not come to it."""
    _, step, way = question
    for depth, read in enumerate(way):
        if case.thing(step, way[:depth]) != ("read", read[0]):
            return None
    return case.thing(step, way)


def uses(case, question):
    """Whether a program reads a file on some way down."""
    _, step, file = question
    if ("read", file) in list(case.known[step].values()):
        return True
    open_ways = ways_down(case, step, {})[1]
    if open_ways:
        raise Halt(("next", step, open_ways[0]))
    return False


def run_told(case, question):
    """(way, end) of a run at a stand."""
    _, step, stand = question
    return run_from(case, step, stand)


def same(case, question):
    """Whether two steps have one end at a stand."""
    _, step, other, stand = question
    return run_from(case, step, stand)[1] == run_from(case, other, stand)[1]


def moves(case, question):
    """Whether the end is another one if a file has another content."""
    _, step, stand, file, content = question
    beyond = written(case.layout.work, stand, (file,), (content,))
    return run_from(case, step, stand)[1] != run_from(case, step, beyond)[1]


def keeps(case, question):
    """Whether the end is the same at all stands with the same contents of some files."""
    _, step, stand, files = question
    contents = {file: content_at(case.layout.work, stand, file) for file in files}
    rows, open_ways = ways_down(case, step, contents)
    if any([row[1] != rows[0][1] for row in rows]):
        return False
    if open_ways:
        raise Halt(("next", step, open_ways[0]))
    return True


def would(case, question):
    """The end of a run at the end of a log."""
    _, number, step = question
    return run_from(case, step, last_stand(case, number))[1]


def fresh(case, question):
    """Whether a run at the end of a log would change nothing."""
    _, number, step = question
    return is_fresh(case, step, last_stand(case, number))


def still(case, question):
    """Whether no step would change anything at the end of a log."""
    stand = last_stand(case, question[1])
    halt_point = None
    for step in case.layout.work.steps:
        try:
            if not is_fresh(case, step, stand):
                return False
        except Halt as halt:
            halt_point = halt_point or halt.point
    if halt_point is not None:
        raise Halt(halt_point)
    return True


def swept(case, question):
    """What stands in a file behind sweeps from the end of a log, None if they never rest."""
    _, number, file = question
    last = Sweeps(case, last_stand(case, number)).last
    return None if last is None else case.content(content_at(case.layout.work, last, file))


def sweeps(case, question):
    """How many sweeps from the end of a log change something, None if they never rest."""
    found = Sweeps(case, last_stand(case, question[1]))
    return None if found.last is None else found.many


def turns(case, question):
    """Which steps change something in sweeps from the end of a log behind changes, None if they never rest."""
    _, number, changes = question
    files, contents = [item[0] for item in changes], [item[1] for item in changes]
    found = Sweeps(case, written(case.layout.work, last_stand(case, number), files, contents))
    return None if found.last is None else tuple(sorted(set(found.changing)))


def rests(case, question):
    """Whether sweeps come to rest from each stand."""
    return rests_everywhere(case)


def aside(case, question):
    """Whether two steps can run side by side at the end of a log."""
    _, number, step, other = question
    stand = last_stand(case, number)
    runs = run_from(case, step, stand), run_from(case, other, stand)
    return can_go_beside(case.layout.work, (step, other), runs)


def apart(case, question):
    """Whether two steps can run side by side at each stand."""
    _, step, other = question
    rows, open_ways = ways_down(case, step, {})
    other_rows, other_open = ways_down(case, other, {})
    for row in rows:
        for beside in other_rows:
            if can_meet(row[0], beside[0]) and not can_go_beside(case.layout.work, (step, other), (row, beside)):
                return False
    if open_ways:
        raise Halt(("next", step, open_ways[0]))
    if other_open:
        raise Halt(("next", other, other_open[0]))
    return True


ANSWERS = {
    "stood": stood,
    "ran": ran,
    "wrote": wrote,
    "had": had,
    "does": does,
    "uses": uses,
    "run": run_told,
    "same": same,
    "moves": moves,
    "keeps": keeps,
    "would": would,
    "fresh": fresh,
    "still": still,
    "swept": swept,
    "sweeps": sweeps,
    "turns": turns,
    "rests": rests,
    "aside": aside,
    "apart": apart,
}


def answer_in(case, question):
    """The answer in a case of which all logs have come to their end; Halt if it is not known there."""
    tell = ANSWERS[question[0]]
    return tell(case, question)
