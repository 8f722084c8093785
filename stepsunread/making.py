"""Worlds from cases, and cases from worlds."""

from stepsunread.cases import new_case
from stepsunread.events import link_of
from stepsunread.layouts import Layout
from stepsunread.marks import marks_of


def some_program(layout, step, known, way):
    """What a program of the step can be from this way on; what it does there becomes known."""
    if way not in known:
        known[way] = layout.programs_of(step).things(known, way)[0]
    thing = known[way]
    if thing[0] != "read":
        return thing
    file = thing[1]
    contents = list(range(layout.work.widths[file]))
    return "read", file, tuple([some_program(layout, step, known, way + ((file, content),)) for content in contents])


def some_crew(case):
    """A crew that does what was chosen."""
    programs = []
    for step in case.layout.work.steps:
        told = case.known[step]
        programs.append(some_program(case.layout, step, {way: told[way] for way in told}, ()))
    return tuple(programs)


def some_first(case, number):
    """A stand for the beginning of the log, () where it is told elsewhere."""
    if link_of(case.layout.book[number]) is not None:
        return ()
    return tuple([case.chosen.get(point, 0) for point in case.layout.first_stand(number)])


def some_hands(case, number):
    """What hands can have written by the sets of the log."""
    layout = case.layout
    told = [layout.hands[number, at] for at, event in enumerate(layout.book[number]) if event[0] == "set"]
    return tuple([item if isinstance(item, int) else case.chosen.get(item, 0) for item in told])


def woven(case, number):
    """The weaving of the log and the one that it is beside, () if there is none."""
    return case.walk_of(number).woven if number in case.layout.turns_open else ()


def some_world(case):
    """A world of a case in which all logs have come to their end."""
    numbers = list(range(len(case.layout.book)))
    firsts = tuple([some_first(case, number) for number in numbers])
    hands = tuple([some_hands(case, number) for number in numbers])
    return some_crew(case), firsts, hands, tuple([woven(case, number) for number in numbers])


def done_by(program):
    """What a program does, by the ways to which it comes."""
    known = {}
    ahead = [((), program)]
    while ahead:
        way, place = ahead.pop()
        if place[0] == "read":
            known[way] = place[:2]
            ahead += [(way + ((place[1], content),), branch) for content, branch in enumerate(place[2])]
        else:
            known[way] = place
    return known


def case_of_world(work, book, world):
    """The case in which all is chosen as it is in the world; what is noted is not asked."""
    crew, firsts, hands, weaves = world
    case = new_case(Layout(work, book, marks_of(book)))
    for step, program in zip(work.steps, crew):
        case.known[step] = done_by(program)
    for number, log in enumerate(book):
        for file, content in zip(work.files, firsts[number]):
            case.chosen["first", number, file] = content
        sets = [at for at, event in enumerate(log) if event[0] == "set"]
        for at, content in zip(sets, hands[number]):
            case.chosen["hand", number, at] = content
        for at, item in enumerate(weaves[number]):
            case.chosen["weave", number, at] = item
    case.go()
    return case
