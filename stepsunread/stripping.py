"""Which notes are needed: events are left out one by one, as long as no other answer comes in."""

from stepsunread.finding import Finding
from stepsunread.marks import marks_of, others


def shut_marks(tree):
    """The marks of events by which leaves of the tree are shut, as the keys of a dict."""
    marks = {}
    ahead = [tree]
    while ahead:
        place = ahead.pop()
        if place[0] == "at":
            ahead += place[2]
        elif place[0] == "shut":
            marks[place[1:]] = True
    return marks


def tree_without(study, question, known, left):
    """A tree but for left out marks that gives no answers but the known ones; None if there are others."""
    return Finding(study.grown(left), question, known, 1).grow()


def strip(study, question, known, left=()):
    """(marks, tree): the marks that stay if each other event, in sequence, is left out as well, as long as it can be.

    The tree gives no answers but the known ones, but for all events but those
    that stay; there is one for the events that are left out from the beginning.
    """
    book = study.book
    tree = tree_without(study, question, known, left)
    gone = list(left)
    for mark in marks_of(book):
        if mark in gone:
            continue
        # An event that shuts nothing, and writes nothing that was noted, can be left out of the tree as it is.
        if book[mark[0]][mark[1]][0] == "set" or mark in shut_marks(tree):
            found = tree_without(study, question, known, gone + [mark])
            if found is None:
                continue
            tree = found
        gone.append(mark)
    return others(book, gone), tree
