"""Sweeps by choices: each step is run once, again and again, until nothing changes.

Halt is raised where the choices do not do. What was worked out is remembered
in the case, as the same is asked for again behind each further choice.
"""

from stepsunread.forms import content_at
from stepsunread.halts import Halt
from stepsunread.ways import run_from


def settled(case, stand):
    """The stand with what was chosen in the place of points."""
    return tuple([told if isinstance(told, int) else case.chosen.get(told, told) for told in stand])


def stand_behind(case, step, stand):
    """The stand behind a run of the step; the end is held against what stands in all its files."""
    place = step, stand
    if place in case.memory:
        return case.memory[place]
    end = run_from(case, step, stand)[1]
    if end == "fail":
        return case.remember(place, stand)
    row = list(stand)
    is_changed = False
    for out, content in zip(case.layout.work.outs[step], end):
        if case.content(row[out]) != content:
            is_changed = True
        row[out] = content
    return case.remember(place, tuple(row) if is_changed else stand)


def is_fresh(case, step, stand):
    """Whether a run of the step would leave all files as they stand."""
    end = run_from(case, step, stand)[1]
    if end == "fail":
        return True
    work = case.layout.work
    row = settled(case, stand)
    told = [(content_at(work, row, file), content) for file, content in zip(work.writes(step), end)]
    # One file that surely changes will do, whatever stands in the other one.
    if any([isinstance(found, int) and found != content for found, content in told]):
        return False
    return all([case.content(found) == content for found, content in told])


def sweep_from(case, stand):
    """(the stand behind one sweep, the steps that change something in it)."""
    place = None, stand
    if place in case.memory:
        return case.memory[place]
    last, changing = stand, ()
    for step in case.layout.work.steps:
        beyond = stand_behind(case, step, last)
        if beyond != last:
            changing += (step,)
        last = beyond
    return case.remember(place, (last, changing))


class Sweeps:
    """Sweeps from a stand, until they come to rest, or a stand comes again.

    last: the stand at rest, None if they never rest. many: how many sweeps
    changed something. changing: the steps that did.
    """

    def __init__(self, case, stand):
        self.many = 0
        self.changing = ()
        self.last = self.sweep_on(case, settled(case, stand))

    def sweep_on(self, case, stand):
        """The stand at rest, None if there is none."""
        ahead = []
        while stand not in ahead:
            ahead.append(stand)
            stand, changing = sweep_from(case, stand)
            if not changing:
                return stand
            self.changing += changing
            self.many += 1
        return None


def halt_of_sweep(case, stand):
    """The point at which a sweep from the stand halts; None if it does not, and is remembered then."""
    place = 0, stand
    if (None, stand) in case.memory:
        return None
    # As long as the point is not chosen, the sweep halts there.
    if place in case.memory and not case.is_chosen(case.memory[place]):
        return case.memory[place]
    try:
        sweep_from(case, stand)
    except Halt as halt:
        return case.remember(place, halt.point)
    return None


def rests_everywhere(case):
    """Whether sweeps come to rest from each stand."""
    halt_point = None
    for stand in case.layout.outline.resting()[1]:
        if (1, stand) not in case.memory:
            told = halt_ahead_of_rest(case, stand)
            if told is False:
                return False
            halt_point = halt_point or told
    if halt_point is not None:
        raise Halt(halt_point)
    return True


def halt_ahead_of_rest(case, stand):
    """The point at which sweeps from the stand halt; None if they come to rest, which is remembered, False if never."""
    sizes = case.layout.outline.resting()[0]
    path = {}
    while (1, stand) not in case.memory:
        if stand in path:
            return False
        path[stand] = True
        point = halt_of_sweep(case, stand)
        if point is not None:
            return point
        beyond = tuple([content if size > 1 else 0 for content, size in zip(sweep_from(case, stand)[0], sizes)])
        if beyond == stand:
            break
        stand = beyond
    for passed in path:
        case.remember((1, passed), True)
    return None
