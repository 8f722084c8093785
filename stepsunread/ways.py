"""What programs do by choices: runs, all their ways, and runs side by side.

A case (stepsunread/cases.py) tells what was chosen; Halt is raised where that
does not do.
"""

from stepsunread.halts import Halt
from stepsunread.machines import end_of


def run_from(case, step, stand):
    """(way, end) of a run of the step at the stand."""
    known, places = case.known[step], case.layout.work.places
    way = ()
    while way in known:
        thing = known[way]
        if thing[0] != "read":
            return way, end_of(thing)
        told = stand[places[thing[1]]]
        way += ((thing[1], told if isinstance(told, int) else case.content(told)),)
    raise Halt(("next", step, way))


def ways_down(case, step, contents):
    """(rows, open_ways): (way, end) of each way down that was chosen to its end, and the ways behind which it is open.

    Files that stand in contents have the content that is told there.
    """
    known = case.known[step]
    widths = case.layout.work.widths
    rows, open_ways = [], []
    ahead = [()]
    while ahead:
        way = ahead.pop(0)
        if way not in known:
            open_ways.append(way)
        elif known[way][0] == "read":
            file = known[way][1]
            found = [contents[file]] if file in contents else list(range(widths[file]))
            ahead += [way + ((file, content),) for content in found]
        else:
            rows.append((way, end_of(known[way])))
    return rows, open_ways


def keeps_reads(work, way, other, end):
    """Whether a run that reads all this finds the same if a run of the other step ends so ahead of it, or amid."""
    if end == "fail":
        return True
    told = dict(zip(work.writes(other), end))
    return all([told.get(file, content) == content for file, content in way])


def can_go_beside(work, steps, runs):
    """Whether runs of two steps, (way, end) of each alone, can go side by side from where they were told."""
    # What a run does hangs on what it reads alone: so nothing changes as long as no read does.
    one, other = steps
    return keeps_reads(work, runs[0][0], other, runs[1][1]) and keeps_reads(work, runs[1][0], one, runs[0][1])


def can_meet(way, other):
    """Whether some stand leads runs of two steps down these ways."""
    told = dict(way)
    return all([told.get(file, content) == content for file, content in other])
