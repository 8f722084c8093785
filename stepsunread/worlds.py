"""Worlds of a book: what they are, and whether they fit what is noted."""

from stepsunread.books import is_book
from stepsunread.errors import BadBook, BadWorld
from stepsunread.events import body_of, link_of
from stepsunread.forms import is_row, is_stand
from stepsunread.passages import Passage
from stepsunread.runs import is_crew
from stepsunread.weavings import Weaver


def is_world(work, book, value):
    """Whether the value is a world of the book, by its form: BadBook."""
    if not is_book(work, book):
        raise BadBook(book)
    return has_form(work, book, value)


def has_form(work, book, value):
    """Whether the value has the form of a world of the book, which is one (but for how long its logs are)."""
    if not isinstance(value, tuple) or len(value) != 4:
        return False
    crew, firsts, hands, weaves = value
    if not is_row_for(book, firsts) or not is_row_for(book, hands) or not is_row_for(book, weaves):
        return False
    for number, log in enumerate(book):
        if not is_first(work, log, firsts[number]) or not are_hands(work, log, hands[number]):
            return False
        if not is_weave(book, number, weaves[number]):
            return False
    return is_crew(work, crew)


def is_row_for(book, value):
    """Whether the value is a tuple with an item for each log."""
    return isinstance(value, tuple) and len(value) == len(book)


def is_first(work, log, value):
    """Whether the value can be the stand at the beginning of the log, () where it is told elsewhere."""
    return is_stand(work, value) if link_of(log) is None else value == ()


def are_hands(work, log, value):
    """Whether the value is a tuple with a content for each set of the log."""
    files = [event[1] for event in log if event[0] == "set"]
    return is_row(value, [work.sizes[work.files.index(file)] for file in files])


def is_weave(book, number, value):
    """Whether the value is the weaving of this log and the one that it is beside, () if there is none."""
    link = link_of(book[number])
    if link is None or link[0] == "after":
        return value == ()
    return Weaver(body_of(book[number]), body_of(book[link[1]])).is_weaving(value)


def passage(work, book, world):
    """The passage of the world through the book: BadBook, BadWorld."""
    if not is_world(work, book, world):
        raise BadWorld(world)
    return Passage(work, book, world)


def is_fitting(work, book, value):
    """Whether the value is a world of the book that fits: BadBook."""
    return is_world(work, book, value) and is_as_noted(work, book, value)


def is_as_noted(work, book, world):
    """Whether all events are as noted in the world, which is one of the book."""
    return not Passage(work, book, world).misfits


def last_stand(work, book, world, number):
    """The stand at the end of the log of this number, in the world, which is one of the book."""
    return Passage(work, book, world).rows[number][-1]


def misfits(work, book, world):
    """The ascending tuple of the marks of events that are not as noted: BadBook, BadWorld."""
    return tuple(sorted(passage(work, book, world).misfits))


def fits(work, book, world):
    """Whether all events are as noted: BadBook, BadWorld."""
    return passage(work, book, world).misfits == []


def stands(work, book, world):
    """For each log the tuple of its stands, at its beginning and behind each event: BadBook, BadWorld."""
    return tuple([tuple(row) for row in passage(work, book, world).rows])
