"""Programs of steps: what they are, how many there are, what they do next."""

from stepsunread.counting import count_programs, shape_of, things_behind
from stepsunread.errors import BadFacts, BadWay
from stepsunread.forms import is_fact, is_way
from stepsunread.works import part_of


def is_program(work, step, value):
    """Whether the value is a program of the step: NoStep."""
    return shape_of(part_of(work, step)).is_program(value)


def programs(work, step):
    """How many programs the step has: NoStep."""
    return count_programs(part_of(work, step), ())


def are_facts(part, value):
    """Whether the value is a tuple of facts of the step, by their forms."""
    return isinstance(value, tuple) and all([is_fact(part, fact) for fact in value])


def things(work, step, facts, way):
    """What programs that have all facts, and come to the way, do behind it: NoStep, BadFacts, BadWay."""
    part = part_of(work, step)
    if not are_facts(part, facts):
        raise BadFacts(facts)
    if not is_way(part, way):
        raise BadWay(way)
    return things_behind(part, facts, way)


def with_facts(work, step, facts):
    """How many programs of the step have all facts: NoStep, BadFacts."""
    part = part_of(work, step)
    if not are_facts(part, facts):
        raise BadFacts(facts)
    return count_programs(part, facts)
