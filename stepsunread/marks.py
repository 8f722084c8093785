"""Marks: which events of a book can be wrong, or left out."""

from stepsunread.forms import is_integer, is_pair

UNMARKED = ("after", "beside", "begin")


def marks_of(book):
    """All marks of events of the book, ascending."""
    marks = []
    for number, log in enumerate(book):
        for at, event in enumerate(log):
            if event[0] not in UNMARKED:
                marks.append((number, at))
    return marks


def is_mark(book, value):
    """Whether the value is a mark of an event of the book."""
    if not is_pair(value) or not is_integer(value[0]) or not is_integer(value[1]):
        return False
    number, at = value
    return 0 <= number < len(book) and 0 <= at < len(book[number]) and book[number][at][0] not in UNMARKED


def are_marks(book, value):
    """Whether the value is an ascending tuple of marks of events of the book."""
    if not isinstance(value, tuple) or not all([is_mark(book, mark) for mark in value]):
        return False
    return all([mark < later for mark, later in zip(value, value[1:])])


def others(book, marks):
    """All marks of events of the book but these, ascending."""
    return tuple([mark for mark in marks_of(book) if mark not in marks])
