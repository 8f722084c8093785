"""Runs of steps at stands."""

from stepsunread.errors import BadCrew, BadEnd, BadStand
from stepsunread.forms import is_end, is_stand
from stepsunread.machines import Machine, written
from stepsunread.programs import is_program
from stepsunread.works import part_of

# How programs begin.
WORDS = ("read", "end", "fail")
# A work keeps so many crews, as the same ones are looked at again and again.
MOST_CREWS = 2000


def is_crew(work, value):
    """Whether the value is a tuple with a program for each step."""
    if not isinstance(value, tuple) or len(value) != len(work.steps):
        return False
    for program in value:
        if not isinstance(program, tuple) or not program or program[0] not in WORDS:
            return False
    # What is equal need not be the same: True is not 1. As strings they differ.
    key = repr(value)
    if key not in work.crews:
        if not all([is_program(work, step, program) for step, program in zip(work.steps, value)]):
            return False
        if len(work.crews) == MOST_CREWS:
            work.crews.clear()
        work.crews[key] = True
    return True


def run(work, crew, step, stand):
    """The (way, end) of a run of the step at the stand: BadCrew, NoStep, BadStand."""
    if not is_crew(work, crew):
        raise BadCrew(crew)
    part = part_of(work, step)
    if not is_stand(work, stand):
        raise BadStand(stand)
    return Machine(work, crew, stand).run_whole(part.name)


def behind(work, step, stand, end):
    """The stand behind a run of the step with this end: NoStep, BadStand, BadEnd."""
    part = part_of(work, step)
    if not is_stand(work, stand):
        raise BadStand(stand)
    if not is_end(part, end):
        raise BadEnd(end)
    # What fails writes nothing.
    return stand if end == "fail" else written(work, stand, part.outputs, end)
