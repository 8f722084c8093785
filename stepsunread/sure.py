"""What a program surely does, in all worlds that fit."""


def forced(layout, step, told):
    """What all programs do that do what is told, by ways: all else could be otherwise."""
    known = {way: told[way] for way in told}
    ahead = [()]
    while ahead:
        way = ahead.pop()
        if way not in known:
            things = layout.things(step, known, way)
            if len(things) > 1:
                continue
            known[way] = things[0]
        if known[way][0] == "read":
            file = known[way][1]
            ahead += [way + ((file, content),) for content in range(layout.work.widths[file])]
    return known


def sure_of(growth, step):
    """What the program of the step does in all cases, by ways; None if there are no cases."""
    facts = None
    # What was chosen for the step in cases so far.
    seen = {}
    at = 0
    case = growth.leaf(0)
    while case is not None and facts != {}:
        told = tuple(case.known[step].items())
        if told not in seen:
            seen[told] = True
            known = forced(case.layout, step, case.known[step])
            if facts is None:
                facts = known
            else:
                facts = {way: facts[way] for way in facts if known.get(way) == facts[way]}
        at += 1
        case = growth.leaf(at)
    return facts
