"""Events by their forms, and how logs begin."""

from stepsunread.forms import is_below, is_integer

# How many items an event has, by its word.
LENGTHS = {
    "after": 2, "beside": 2, "set": 3, "saw": 3, "run": 4,
    "begin": 2, "reads": 3, "end": 3, "break": 3,
}
LINKS = ("after", "beside")
HANDS = ("set", "saw")
MOST_PARTS = 4
# A file that is not noted may be any: so its content may be one of the greatest files.
MOST_CONTENTS = 4


def is_event(work, value):
    """Whether the value is an event, by its form (after and beside: of any log)."""
    if not isinstance(value, tuple) or not value:
        return False
    word = value[0]
    if not isinstance(word, str) or LENGTHS.get(word) != len(value):
        return False
    name = value[1]
    if word in LINKS:
        return is_integer(name) and name >= 0
    # What is no string may have no place in a dict.
    if not isinstance(name, str):
        return False
    if word in HANDS:
        return name in work.widths and (value[2] is None or is_below(value[2], work.widths[name]))
    if name not in work.parts:
        return False
    part = work.parts[name]
    if word == "run":
        return is_reads(part, value[2], True) and is_noted_end(part, value[3])
    if word == "reads":
        return is_reads(part, value[2], False)
    if word == "end":
        return is_noted_end(part, value[2])
    return word == "begin" or is_broken(part, value[2])


def is_reads(part, value, may_have_gaps):
    """Whether the value is reads of the step."""
    if not isinstance(value, tuple) or len(value) > MOST_PARTS:
        return False
    for item in value:
        if item is None and may_have_gaps:
            continue
        if not isinstance(item, tuple) or len(item) != 2:
            return False
        file, content = item
        if file is not None and file not in part.inputs:
            return False
        if content is not None and not is_below(content, MOST_CONTENTS if file is None else part.widths[file]):
            return False
    return True


def is_noted_row(part, value):
    """Whether the value is a tuple with a content, or None, for each of the first files that the step writes."""
    if not isinstance(value, tuple):
        return False
    for item, file in zip(value, part.outputs):
        if item is not None and not is_below(item, part.widths[file]):
            return False
    return True


def is_noted_end(part, value):
    """Whether the value can be noted as an end of the step."""
    if value is None or value == "fail":
        return True
    return is_noted_row(part, value) and len(value) == len(part.outputs)


def is_broken(part, value):
    """Whether the value can be what a broken run of the step wrote: not all its files."""
    return is_noted_row(part, value) and len(value) < len(part.outputs)


def link_of(log):
    """The after or beside with which the log begins, or None."""
    return log[0] if log and log[0][0] in LINKS else None


def body_of(log):
    """The events of the log but for after and beside."""
    return log if link_of(log) is None else log[1:]
