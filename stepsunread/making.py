"""Worlds from cases, and cases from worlds."""

from stepsunread.cases import Case
from stepsunread.layouts import Layout
from stepsunread.marks import marks_of
from stepsunread.walks import Walk


def some_program(layout, step, known, way):
    """What a program of the step can be from this way on; what it does there becomes known."""
    if way not in known:
        known[way] = layout.things(step, known, way)[0]
    thing = known[way]
    if thing[0] != "read":
        return thing
    file = thing[1]
    contents = list(range(layout.work.widths[file]))
    return "read", file, tuple([some_program(layout, step, known, way + ((file, content),)) for content in contents])


def some_crew(case):
    """A crew that does what was chosen."""
    programs = []
    for step in case.layout.work.steps:
        told = case.known[step]
        programs.append(some_program(case.layout, step, {way: told[way] for way in told}, ()))
    return tuple(programs)


def some_first(case, number):
    """A stand for the beginning of the log, () where it is told elsewhere."""
    if case.layout.outline.links[number] is not None:
        return ()
    return tuple([case.chosen.get(point, 0) for point in case.layout.first_stand(number)])


def some_hands(case, number):
    """What hands can have written by the sets of the log."""
    row = []
    for at, event in enumerate(case.layout.book[number]):
        if event[0] == "set":
            told = case.layout.hands[number, at]
            # Where it is left out, and nothing hangs on it, it may as well be as it is noted.
            noted = event[2] or 0
            row.append(told if isinstance(told, int) else case.chosen.get(told, noted))
    return tuple(row)


def woven(case, number):
    """The weaving of the log and the one that it is beside, () if there is none."""
    return case.walk_of(number).woven if number in case.layout.turns_open else ()


def some_world(case):
    """A world of a case in which all logs have come to their end."""
    numbers = list(range(len(case.layout.book)))
    firsts = tuple([some_first(case, number) for number in numbers])
    hands = tuple([some_hands(case, number) for number in numbers])
    return some_crew(case), firsts, hands, tuple([woven(case, number) for number in numbers])


def done_by(program):
    """What a program does, by the ways to which it comes."""
    known = {}
    ahead = [((), program)]
    while ahead:
        way, place = ahead.pop()
        if place[0] == "read":
            known[way] = place[:2]
            ahead += [(way + ((place[1], content),), branch) for content, branch in enumerate(place[2])]
        else:
            known[way] = place
    return known


def case_of_world(outline, world, known):
    """The case in which all is chosen as it is in the world, known being what its programs do; no note is asked."""
    _, firsts, hands, weaves = world
    layout = Layout(outline, marks_of(outline.book))
    case = Case(layout, {}, known, [None] * len(outline.groups), [])
    for number, log in enumerate(outline.book):
        for file, content in zip(outline.work.files, firsts[number]):
            case.chosen["first", number, file] = content
        sets = [at for at, event in enumerate(log) if event[0] == "set"]
        for at, content in zip(sets, hands[number]):
            case.chosen["hand", number, at] = content
        for at, item in enumerate(weaves[number]):
            case.chosen["weave", number, at] = item
    case.go()
    return case


def case_at_end(outline, known, number, stand):
    """A case in which the programs do what is known, and the log of this number has come to this stand.

    With None no log has come anywhere.
    """
    case = Case(Layout(outline, ()), {}, known, [None] * len(outline.groups), [])
    if number is not None:
        walk = Walk(case.layout, (number,), stand, ())
        walk.is_over = True
        case.walks[outline.group_numbers[number]] = walk
    return case
