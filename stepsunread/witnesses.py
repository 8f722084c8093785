"""Worlds as evidence: whether they fit, and the answers that they give."""

from stepsunread.answers import answer_in
from stepsunread.events import body_of
from stepsunread.forms import content_at, is_row, is_stand, string_of
from stepsunread.inquiries import AT_THE_END
from stepsunread.making import case_at_end, case_of_world, done_by
from stepsunread.passages import Passage
from stepsunread.questions import names_log
from stepsunread.runs import is_told_crew, may_be_crew
from stepsunread.weavings import Weaver

# Of a book so many worlds, and tuples of contents, are kept, as the same ones are looked at again and again.
MOST_KEPT = 4000


def passage_of(outline, value):
    """The passage of a world through the book, None if the value is none by its form."""
    if not isinstance(value, tuple) or len(value) != 4 or not may_be_crew(outline.work, value[0]):
        return None
    crew, contents = string_of(value[0]), string_of(value[1:])
    key = crew + contents
    if key not in outline.passages:
        if not is_told_crew(outline.work, value[0], crew) or not are_told_contents(outline, value, contents):
            return None
        if len(outline.passages) == MOST_KEPT:
            outline.passages.clear()
        outline.passages[key] = Passage(outline, value)
    return outline.passages[key]


def are_told_contents(outline, value, told):
    """Whether a tuple of four, but for the first of them, told as a string, has the form of a world of the book."""
    if told not in outline.contents:
        if not are_contents(outline, value):
            return False
        if len(outline.contents) == MOST_KEPT:
            outline.contents.clear()
        outline.contents[told] = True
    return True


def are_contents(outline, value):
    """Whether a tuple of four, but for the first of them, has the form of a world of the book."""
    _, firsts, hands, weaves = value
    many = len(outline.book)
    for row in (firsts, hands, weaves):
        if not isinstance(row, tuple) or len(row) != many:
            return False
    for number, sizes in enumerate(outline.set_sizes):
        if not is_first(outline, number, firsts[number]) or not is_row(hands[number], sizes):
            return False
        if not is_weave(outline, number, weaves[number]):
            return False
    return True


def is_first(outline, number, value):
    """Whether the value can be the stand at the beginning of the log, () where it is told elsewhere."""
    return is_stand(outline.work, value) if outline.links[number] is None else value == ()


def is_weave(outline, number, value):
    """Whether the value is the weaving of this log and the one that it is beside, () if there is none."""
    link = outline.links[number]
    if link is None or link[0] == "after":
        return value == ()
    return Weaver(body_of(outline.book[number]), body_of(outline.book[link[1]])).is_weaving(value)


def misfits_of(outline, value):
    """The marks of events that are not as noted in the world, None if the value is none by its form."""
    found = passage_of(outline, value)
    return None if found is None else found.go().misfits


def is_fitting(outline, value):
    """Whether the value is a world of the book that fits."""
    return misfits_of(outline, value) == []


def answer_of_world(outline, world, question):
    """The answer that the world, which is one by its form, gives."""
    found = passage_of(outline, world)
    if found.answers_told is None:
        found.answers_told = {}
    if question not in found.answers_told:
        found.answers_told[question] = answer_of_passage(found.go(), world, question)
    return found.answers_told[question]


def answer_of_passage(told, world, question):
    """The answer that the world gives, by its passage."""
    outline, work = told.outline, told.outline.work
    word = question[0]
    if word == "stood":
        _, number, moment, file = question
        return content_at(work, told.rows[number][moment], file)
    if told.deeds is None:
        told.deeds = {step: done_by(program) for step, program in zip(work.steps, told.crew)}
    if not names_log(question):
        case = case_at_end(outline, told.deeds, None, ())
    elif word in AT_THE_END:
        case = case_at_end(outline, told.deeds, question[1], told.lasts[question[1]])
    else:
        case = case_of_world(outline, world, told.deeds)
    return answer_in(case, question)


def end_stand(outline, world, number):
    """The stand behind the last event of the log, in the world."""
    return passage_of(outline, world).go().rows[number][-1]
