"""Sweeps by choices: each step is run once, again and again, until nothing changes.

Halt is raised where the choices do not do.
"""

from stepsunread.forms import all_rows, content_at
from stepsunread.halts import Halt
from stepsunread.machines import written
from stepsunread.ways import run_from


def settled(case, stand):
    """The stand with what was chosen in the place of points."""
    return tuple([told if isinstance(told, int) else case.chosen.get(told, told) for told in stand])


def stand_behind(case, step, stand):
    """The stand behind a run of the step; the end is held against what stands in all its files."""
    end = run_from(case, step, stand)[1]
    if end == "fail":
        return stand
    work = case.layout.work
    files = work.writes(step)
    found = tuple([case.content(content_at(work, stand, file)) for file in files])
    return stand if found == end else written(work, stand, files, end)


def is_fresh(case, step, stand):
    """Whether a run of the step would leave all files as they stand."""
    end = run_from(case, step, stand)[1]
    if end == "fail":
        return True
    work = case.layout.work
    row = settled(case, stand)
    told = [(content_at(work, row, file), content) for file, content in zip(work.writes(step), end)]
    # One file that surely changes will do, whatever stands in the other one.
    if any([isinstance(found, int) and found != content for found, content in told]):
        return False
    return all([case.content(found) == content for found, content in told])


def sweep_from(case, stand):
    """The stands behind each step of one sweep, the stand ahead of it being the first."""
    stands = [stand]
    for step in case.layout.work.steps:
        stands.append(stand_behind(case, step, stands[-1]))
    return stands


class Sweeps:
    """Sweeps from a stand, until they come to rest, or a stand comes again.

    last: the stand at rest, None if they never rest. many: how many sweeps
    changed something. changing: the steps that did, in the sequence in which they came to it.
    """

    def __init__(self, case, stand):
        self.case = case
        self.many = 0
        self.changing = []
        self.last = self.sweep_on(settled(case, stand))

    def sweep_on(self, stand):
        """The stand at rest, None if there is none."""
        ahead = []
        while stand not in ahead:
            ahead.append(stand)
            stand = self.sweep(stand)
            if stand == ahead[-1]:
                return stand
            self.many += 1
        return None

    def sweep(self, stand):
        """The stand behind one sweep."""
        stands = sweep_from(self.case, stand)
        for step, before, behind in zip(self.case.layout.work.steps, stands, stands[1:]):
            if behind != before and step not in self.changing:
                self.changing.append(step)
        return stands[-1]


def rests_everywhere(case):
    """Whether sweeps come to rest from each stand."""
    work = case.layout.work
    read = [file for step in work.steps for file in work.reads(step)]
    # What nobody reads is settled by one run of the step that writes it: it stops no rest, and
    # brings none. So it is left at 0.
    sizes = [work.widths[file] if file in read else 1 for file in work.files]
    beyond = {}
    halt_point = None
    for stand in all_rows(sizes):
        try:
            told = sweep_from(case, stand)[-1]
            beyond[stand] = tuple([content if size > 1 else 0 for content, size in zip(told, sizes)])
        except Halt as halt:
            halt_point = halt_point or halt.point
    if comes_again(beyond):
        return False
    if halt_point is not None:
        raise Halt(halt_point)
    return True


def comes_again(beyond):
    """Whether a stand comes again behind other ones, if each of these stands leads to the one that is told."""
    fine = {}
    for begin in beyond:
        stand, path = begin, {}
        while stand in beyond and stand not in fine and beyond[stand] != stand:
            if stand in path:
                return True
            path[stand] = True
            stand = beyond[stand]
        for passed in path:
            fine[passed] = True
    return False
