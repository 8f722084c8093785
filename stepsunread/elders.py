"""Elder logs of a house: joined behind others, and blotted."""

from stepsunread.events import LINKS
from stepsunread.marks import is_mark

BLOTTABLE = ("set", "saw", "run")


def moved_on(book, many):
    """The logs of a book, numbered on behind so many others."""
    rows = []
    for log in book:
        rows.append(tuple([(event[0], event[1] + many) if event[0] in LINKS else event for event in log]))
    return tuple(rows)


def is_blottable(elders, value):
    """Whether the value is a mark of a set, saw or run of the elder logs."""
    return is_mark(elders, value) and elders[value[0]][value[1]][0] in BLOTTABLE


def blotted_event(event):
    """The event, of which nothing is noted."""
    if event[0] != "run":
        return event[:2] + (None,)
    # Gaps alone tell nothing already.
    if event[2] and event[3] is None and all([part is None for part in event[2]]):
        return event
    return event[:2] + ((None,), None)


def blotted(elders, mark):
    """The elder logs, but with nothing noted in the event of this mark."""
    number, at = mark
    log = elders[number]
    changed = log[:at] + (blotted_event(log[at]),) + log[at + 1:]
    return elders[:number] + (changed,) + elders[number + 1:]
