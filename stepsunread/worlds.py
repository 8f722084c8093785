"""Worlds of a book: what they are, and whether they fit what is noted."""

from stepsunread.errors import BadWorld
from stepsunread.events import body_of
from stepsunread.forms import is_row, is_stand
from stepsunread.passages import Passage
from stepsunread.runs import is_crew
from stepsunread.studies import study_of
from stepsunread.weavings import Weaver

# Of a book so many tuples of contents are kept, as the same ones are looked at again and again.
MOST_CONTENTS = 2000


def is_world(work, book, value):
    """Whether the value is a world of the book, by its form: BadBook."""
    return has_form(study_of(work, book).outline, value)


def has_form(outline, value):
    """Whether the value has the form of a world of the book."""
    if not isinstance(value, tuple) or len(value) != 4:
        return False
    if not is_crew(outline.work, value[0]):
        return False
    # What is equal need not be the same: True is not 1. As strings they differ.
    key = repr(value[1:])
    if key not in outline.contents:
        if not are_contents(outline, value):
            return False
        if len(outline.contents) == MOST_CONTENTS:
            outline.contents.clear()
        outline.contents[key] = True
    return True


def are_contents(outline, value):
    """Whether a tuple of four, but for the first of them, has the form of a world of the book."""
    _, firsts, hands, weaves = value
    many = len(outline.book)
    for row in (firsts, hands, weaves):
        if not isinstance(row, tuple) or len(row) != many:
            return False
    for number, sizes in enumerate(outline.set_sizes):
        if not is_first(outline, number, firsts[number]) or not is_row(hands[number], sizes):
            return False
        if not is_weave(outline, number, weaves[number]):
            return False
    return True


def is_first(outline, number, value):
    """Whether the value can be the stand at the beginning of the log, () where it is told elsewhere."""
    return is_stand(outline.work, value) if outline.links[number] is None else value == ()


def is_weave(outline, number, value):
    """Whether the value is the weaving of this log and the one that it is beside, () if there is none."""
    link = outline.links[number]
    if link is None or link[0] == "after":
        return value == ()
    return Weaver(body_of(outline.book[number]), body_of(outline.book[link[1]])).is_weaving(value)


def passage(work, book, world):
    """The passage of the world through the book: BadBook, BadWorld."""
    outline = study_of(work, book).outline
    if not has_form(outline, world):
        raise BadWorld(world)
    return Passage(outline, world)


def is_fitting(outline, value):
    """Whether the value is a world of the book that fits."""
    return has_form(outline, value) and not Passage(outline, value).misfits


def misfits(work, book, world):
    """The ascending tuple of the marks of events that are not as noted: BadBook, BadWorld."""
    return tuple(sorted(passage(work, book, world).misfits))


def fits(work, book, world):
    """Whether all events are as noted: BadBook, BadWorld."""
    return passage(work, book, world).misfits == []


def stands(work, book, world):
    """For each log the tuple of its stands, at its beginning and behind each event: BadBook, BadWorld."""
    return tuple([tuple(row) for row in passage(work, book, world).rows])
