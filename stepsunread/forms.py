"""The forms of plain values: integers, contents, ways, things, stands, ends.

A part is what a work tells of one of its steps (stepsunread/parts.py).
"""


def is_integer(value):
    """Whether the value is an int that is no bool."""
    return isinstance(value, int) and not isinstance(value, bool)


def is_below(value, bound):
    """Whether the value is an integer from 0 below the bound."""
    return isinstance(value, int) and not isinstance(value, bool) and 0 <= value < bound


def string_of(value):
    """The value as a string, which only values have that are the same: what is equal need not be, True is not 1.

    An empty one if there are integers in it of which Python writes no string; nothing here is as large.
    """
    try:
        text = str(value)
    except ValueError:
        return ""
    return text


def is_same(value, told):
    """Whether the value is just what is told."""
    return value == told and string_of(value) == string_of(told)


def is_row(value, sizes):
    """Whether the value is a tuple with an integer below each of the sizes."""
    if not isinstance(value, tuple) or len(value) != len(sizes):
        return False
    for item, size in zip(value, sizes):
        if not isinstance(item, int) or isinstance(item, bool) or not 0 <= item < size:
            return False
    return True


def all_rows(sizes):
    """All tuples with an integer from 0 below each of the sizes, ascending."""
    rows = [()]
    for size in sizes:
        rows = [row + (number,) for row in rows for number in range(size)]
    return rows


def is_pair(value):
    """Whether the value is a tuple of two."""
    return isinstance(value, tuple) and len(value) == 2


def is_read(part, value):
    """Whether the value is (file, content) of a file that the step reads."""
    return is_pair(value) and value[0] in part.inputs and is_below(value[1], part.widths[value[0]])


def is_way(part, value):
    """Whether the value has the form of a way of the step."""
    return isinstance(value, tuple) and all([is_read(part, read) for read in value])


def is_contents(part, value):
    """Whether the value is a tuple with a content for each file that the step writes."""
    if not isinstance(value, tuple) or len(value) != len(part.outputs):
        return False
    for item, file in zip(value, part.outputs):
        if not is_below(item, part.widths[file]):
            return False
    return True


def is_end(part, value):
    """Whether the value can be the end of a run of the step."""
    return value == "fail" or is_contents(part, value)


def is_thing(part, value):
    """Whether the value has the form of a thing that a program of the step does."""
    if not isinstance(value, tuple) or not value:
        return False
    if value[0] == "fail":
        return len(value) == 1
    if value[0] == "read":
        return len(value) == 2 and value[1] in part.inputs
    return value[0] == "end" and len(value) == 2 and is_contents(part, value[1])


def is_fact(part, value):
    """Whether the value has the form of a fact of the step."""
    return is_pair(value) and is_way(part, value[0]) and is_thing(part, value[1])


def is_stand(work, value):
    """Whether the value is a stand of the work."""
    return is_row(value, work.sizes)


def content_at(work, stand, file):
    """The content of the file in the stand."""
    return stand[work.places[file]]


def is_content(work, file, value):
    """Whether the value is a content of the file."""
    return is_below(value, work.widths[file])
