"""Events by their forms, and how logs begin."""

from stepsunread.forms import is_below, is_content, is_integer, is_pair
from stepsunread.works import part_of

# How many items an event has, by its word.
LENGTHS = {
    "after": 2, "beside": 2, "set": 3, "saw": 3, "run": 4,
    "begin": 2, "reads": 3, "end": 3, "break": 3,
}
LINKS = ("after", "beside")
MOST_PARTS = 4
# A file that is not noted may be any: so its content may be one of the greatest files.
MOST_CONTENTS = 4


def is_event(work, value):
    """Whether the value is an event, by its form (after and beside: of any log)."""
    if not isinstance(value, tuple) or not value or not isinstance(value[0], str):
        return False
    word = value[0]
    if word not in LENGTHS or len(value) != LENGTHS[word]:
        return False
    if word in LINKS:
        return is_integer(value[1]) and value[1] >= 0
    if word in ("set", "saw"):
        return value[1] in work.files and is_noted_content(work, value[1], value[2])
    return value[1] in work.steps and is_step_event(part_of(work, value[1]), value)


def is_step_event(part, event):
    """Whether what stands behind the step in its event can stand there."""
    word = event[0]
    if word == "run":
        return is_reads(part, event[2], True) and is_noted_end(part, event[3])
    if word == "reads":
        return is_reads(part, event[2], False)
    if word == "end":
        return is_noted_end(part, event[2])
    return word == "begin" or is_broken(part, event[2])


def is_noted_content(work, file, value):
    """Whether the value is a content of the file, or None."""
    return value is None or is_content(work, file, value)


def is_reads(part, value, may_have_gaps):
    """Whether the value is reads of the step."""
    if not isinstance(value, tuple) or len(value) > MOST_PARTS:
        return False
    return all([is_noted_read(part, item, may_have_gaps) for item in value])


def is_noted_read(part, value, may_be_gap):
    """Whether the value is a part of reads."""
    if value is None:
        return may_be_gap
    if not is_pair(value):
        return False
    file, content = value
    if file is not None and file not in part.inputs:
        return False
    bound = MOST_CONTENTS if file is None else part.widths[file]
    return content is None or is_below(content, bound)


def is_noted_row(value, sizes):
    """Whether the value is a tuple with a content, or None, for each of the sizes."""
    if not isinstance(value, tuple) or len(value) != len(sizes):
        return False
    return all([item is None or is_below(item, size) for item, size in zip(value, sizes)])


def is_noted_end(part, value):
    """Whether the value can be noted as an end of the step."""
    return value is None or value == "fail" or is_noted_row(value, part.output_sizes())


def is_broken(part, value):
    """Whether the value can be what a broken run of the step wrote: not all its files."""
    if not isinstance(value, tuple) or len(value) >= len(part.outputs):
        return False
    return is_noted_row(value, part.output_sizes()[:len(value)])


def link_of(log):
    """The after or beside with which the log begins, or None."""
    return log[0] if log and log[0][0] in LINKS else None


def body_of(log):
    """The events of the log but for after and beside."""
    return log if link_of(log) is None else log[1:]
