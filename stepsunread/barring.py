"""What a run cannot do, or a file not have, by the event that comes."""

from stepsunread.machines import end_of
from stepsunread.noted import is_end_as, is_row_as, is_way_as

# A part of reads that any read is as.
ANY = (None, None)


def part_at(parts, place):
    """What the reads of a run tell of the read at this place: None if there is none, anything from the first gap on."""
    if None in parts[:place + 1]:
        return ANY
    return parts[place] if place < len(parts) else None


def part_due(event, way, done):
    """What the event tells of the next read of a run that has read this way, and has had so many reads in the event."""
    if event[0] == "run":
        return part_at(event[2], len(way))
    if event[0] == "reads":
        return event[2][done] if done < len(event[2]) else None
    # A run that ends, or is broken off, reads no more.
    return None


def fine_things(event, way, done, things):
    """Which of these things a program can do behind the way without the event being wrong at once, but for contents."""
    word = event[0]
    part = part_due(event, way, done)
    fine = []
    if part is not None:
        fine = [thing for thing in things if thing[0] == "read" and part[0] in (None, thing[1])]
    if word == "run":
        is_end = is_way_as(event[2], way)
    else:
        # What reads tell is asked for only as long as there are parts left.
        is_end = word != "reads"
    return fine + fine_ends(word, event[-1], things) if is_end else fine


def fine_ends(word, noted, things):
    """Which of these things end a run, if that is noted of the end in an event of this word: a run, end or break."""
    if word == "break":
        return [thing for thing in things if thing[0] == "end" and is_row_as(noted, thing[1])]
    if noted is None:
        return [thing for thing in things if thing[0] != "read"]
    if noted == "fail" or None not in noted:
        # Most of what is noted is noted whole: there is one such thing alone.
        only = ("fail",) if noted == "fail" else ("end", noted)
        return [only] if only in things else []
    return [thing for thing in things if thing[0] != "read" and is_end_as(noted, end_of(thing))]


def only_content(event, way, done):
    """The only content of a file, which the event needs to go on, with which it is not wrong; None if all can be."""
    if event[0] == "saw":
        return event[2]
    part = part_due(event, way, done)
    return None if part is None else part[1]
