"""What programs of a step can do next, and how many there are, by what is known of them.

What is known is a dict of what a program does behind ways; behind each of
these ways it is known to read on as the way tells.
"""

from stepsunread.orders import Orders
from stepsunread.sums import Sums


def shape_of(part):
    """All programs of the step, as a whole."""
    # Kept with the step: it hangs on nothing else, and is asked for again and again.
    if part.shape is None:
        part.shape = Sums(part) if part.kind == "sums" else Orders(part)
    return part.shape


def known_by(facts):
    """What is known by facts, None where they contradict."""
    known = {}
    for way, thing in facts:
        if not follow(known, way) or known.setdefault(way, thing) != thing:
            return None
    return known


def follow(known, way):
    """Whether programs that do what is known can come to the way; if so, that becomes known, too."""
    for depth, read in enumerate(way):
        thing = ("read", read[0])
        if known.setdefault(way[:depth], thing) != thing:
            return False
    return True


def can_read_so(part, known):
    """Whether no file is read twice on a way, and no more files than MOST tells."""
    for way, thing in known.items():
        if thing[0] == "read" and (len(way) >= part.most or thing[1] in [read[0] for read in way]):
            return False
    return True


def count_programs(part, facts):
    """How many programs of the step have all facts."""
    known = known_by(facts)
    if known is None or not can_read_so(part, known):
        return 0
    return shape_of(part).count(known)


def things_behind(part, facts, way):
    """What programs that have all facts, and come to the way, do behind it, ascending."""
    known = known_by(facts)
    if known is None or not follow(known, way) or not can_read_so(part, known):
        return ()
    shape = shape_of(part)
    if way not in known:
        return shape.things(known, way)
    return (known[way],) if shape.is_possible(known) else ()
