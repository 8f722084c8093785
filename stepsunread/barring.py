"""What a run cannot do, or a file not have, by the event that comes."""

from stepsunread.machines import end_of
from stepsunread.noted import is_end_as, is_row_as, is_way_as

# A part of reads that any read is as.
ANY = (None, None)


def part_at(parts, place):
    """What the reads of a run tell of the read at this place: None if there is none, anything from the first gap on."""
    if None in parts[:place + 1]:
        return ANY
    return parts[place] if place < len(parts) else None


def part_due(event, way, done):
    """What the event tells of the next read of a run that has read this way, and has had so many reads in the event."""
    if event[0] == "run":
        return part_at(event[2], len(way))
    if event[0] == "reads":
        return event[2][done] if done < len(event[2]) else None
    # A run that ends, or is broken off, reads no more.
    return None


def fine_things(event, way, done, things):
    """Which of these things a program can do behind the way without the event being wrong at once, but for contents."""
    word = event[0]
    part = part_due(event, way, done)
    fine = []
    if part is not None:
        fine = [thing for thing in things if thing[0] == "read" and part[0] in (None, thing[1])]
    if word == "run":
        is_end = is_way_as(event[2], way)
    else:
        # What reads tell is asked for only as long as there are parts left.
        is_end = word != "reads"
    if is_end:
        fine += [thing for thing in things if thing[0] != "read" and can_end(word, event[-1], end_of(thing))]
    return fine


def can_end(word, noted, end):
    """Whether an event of this word, a run, end or break, can have this end, if that is noted of it."""
    if word == "break":
        return end != "fail" and is_row_as(noted, end)
    return noted is None or is_end_as(noted, end)


def only_content(event, way, done):
    """The only content of a file, which the event needs to go on, with which it is not wrong; None if all can be."""
    if event[0] == "saw":
        return event[2]
    part = part_due(event, way, done)
    return None if part is None else part[1]
