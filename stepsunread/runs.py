"""Runs of steps at stands."""

from stepsunread.errors import BadCrew, BadEnd, BadStand
from stepsunread.forms import is_end, is_stand, string_of
from stepsunread.machines import left_by, run_of
from stepsunread.programs import is_program
from stepsunread.works import part_of

# How programs begin.
WORDS = ("read", "end", "fail")
# A work keeps so many crews, as the same ones are looked at again and again.
MOST_CREWS = 2000


def may_be_crew(work, value):
    """Whether the value has the rough form of a crew: so it is not nested too deep to be written as a string."""
    if not isinstance(value, tuple) or len(value) != len(work.steps):
        return False
    for program in value:
        if not isinstance(program, tuple) or not program or program[0] not in WORDS:
            return False
    return True


def is_crew(work, value):
    """Whether the value is a tuple with a program for each step."""
    return may_be_crew(work, value) and is_told_crew(work, value, string_of(value))


def is_told_crew(work, value, told):
    """Whether a value of the rough form of a crew, told as a string, is one."""
    if told not in work.crews:
        if not all([is_program(work, step, program) for step, program in zip(work.steps, value)]):
            return False
        if len(work.crews) == MOST_CREWS:
            work.crews.clear()
        work.crews[told] = True
    return True


def run(work, crew, step, stand):
    """The (way, end) of a run of the step at the stand: BadCrew, NoStep, BadStand."""
    if not is_crew(work, crew):
        raise BadCrew(crew)
    name = part_of(work, step).name
    if not is_stand(work, stand):
        raise BadStand(stand)
    return run_of(work, crew, name, stand)


def behind(work, step, stand, end):
    """The stand behind a run of the step with this end: NoStep, BadStand, BadEnd."""
    part = part_of(work, step)
    if not is_stand(work, stand):
        raise BadStand(stand)
    if not is_end(part, end):
        raise BadEnd(end)
    return left_by(work, part.name, stand, end)
