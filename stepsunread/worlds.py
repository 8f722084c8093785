"""Worlds of a book: what they are, and whether they fit what is noted."""

from stepsunread.errors import BadWorld
from stepsunread.studies import study_of
from stepsunread.witnesses import passage_of


def is_world(work, book, value):
    """Whether the value is a world of the book, by its form: BadBook."""
    return passage_of(study_of(work, book).outline, value) is not None


def passage(work, book, world):
    """The passage of the world through the book, which it has gone through: BadBook, BadWorld."""
    found = passage_of(study_of(work, book).outline, world)
    if found is None:
        raise BadWorld(world)
    return found.go()


def misfits(work, book, world):
    """The ascending tuple of the marks of events that are not as noted: BadBook, BadWorld."""
    return tuple(sorted(passage(work, book, world).misfits))


def fits(work, book, world):
    """Whether all events are as noted: BadBook, BadWorld."""
    return passage(work, book, world).misfits == []


def stands(work, book, world):
    """For each log the tuple of its stands, at its beginning and behind each event: BadBook, BadWorld."""
    return tuple([tuple(row) for row in passage(work, book, world).rows])
