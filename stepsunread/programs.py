"""Programs of steps: what they are, how many there are, what they do next."""

from stepsunread.counting import count_programs
from stepsunread.errors import BadFacts, BadWay
from stepsunread.forms import is_fact, is_thing, is_way
from stepsunread.rules import all_ends
from stepsunread.works import part_of


def is_program(work, step, value):
    """Whether the value is a program of the step: NoStep."""
    part = part_of(work, step)
    facts = facts_of(part, value, ())
    # A program is just what does at all its places what it does there.
    return facts is not None and count_programs(part, facts) == 1


def facts_of(part, value, way):
    """What a program does at each place from this way on, as facts; None if its form is wrong."""
    if not isinstance(value, tuple) or not value or value[0] != "read":
        return [(way, value)] if is_thing(part, value) else None
    # The depth is bounded here, as values may be nested deeper than Python can go.
    if len(value) != 3 or len(way) == part.most or value[1] not in part.inputs:
        return None
    _, file, branches = value
    if not isinstance(branches, tuple) or len(branches) != part.widths[file]:
        return None
    facts = [(way, ("read", file))]
    for content, branch in enumerate(branches):
        beyond = facts_of(part, branch, way + ((file, content),))
        if beyond is None:
            return None
        facts += beyond
    return facts


def programs(work, step):
    """How many programs the step has: NoStep."""
    return count_programs(part_of(work, step), ())


def are_facts(part, value):
    """Whether the value is a tuple of facts of the step, by their forms."""
    return isinstance(value, tuple) and all([is_fact(part, fact) for fact in value])


def things(work, step, facts, way):
    """What programs that have all facts, and come to the way, do behind it: NoStep, BadFacts, BadWay."""
    part = part_of(work, step)
    if not are_facts(part, facts):
        raise BadFacts(facts)
    if not is_way(part, way):
        raise BadWay(way)
    possible = all_ends(part) + [("read", file) for file in sorted(part.inputs)]
    return tuple([thing for thing in possible if count_programs(part, facts + ((way, thing),)) > 0])


def with_facts(work, step, facts):
    """How many programs of the step have all facts: NoStep, BadFacts."""
    part = part_of(work, step)
    if not are_facts(part, facts):
        raise BadFacts(facts)
    return count_programs(part, facts)
