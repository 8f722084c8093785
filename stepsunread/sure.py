"""What a program surely does, in all worlds that fit."""

from stepsunread.growth import Growth


def forced(layout, step, told):
    """What all programs do that do what is told, by ways: all else could be otherwise."""
    known = {way: told[way] for way in told}
    ahead = [()]
    while ahead:
        way = ahead.pop()
        if way not in known:
            things = layout.things(step, known, way)
            if len(things) > 1:
                continue
            known[way] = things[0]
        if known[way][0] == "read":
            file = known[way][1]
            ahead += [way + ((file, content),) for content in range(layout.work.widths[file])]
    return known


class Sure(Growth):
    """Gathers what the program of a step does in all leaves that fit: facts, by ways, None if there are none."""

    def __init__(self, layout, step):
        Growth.__init__(self, layout, None)
        self.step = step
        self.facts = None
        # What was chosen for the step in leaves so far.
        self.seen = {}

    def give(self, case, answer):
        """A leaf fits."""
        told = tuple(case.known[self.step].items())
        if told in self.seen:
            return
        self.seen[told] = True
        known = forced(self.layout, self.step, case.known[self.step])
        if self.facts is None:
            self.facts = known
        else:
            self.facts = {way: self.facts[way] for way in self.facts if known.get(way) == self.facts[way]}
        if not self.facts:
            self.is_done = True
