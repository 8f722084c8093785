"""From which note on something was known."""

from stepsunread.errors import BadLog, BadQuestion
from stepsunread.finding import Finding, only_answer
from stepsunread.forms import is_below, is_pair
from stepsunread.looking import leaf_answers
from stepsunread.questions import is_asked, names_log
from stepsunread.studies import study_of
from stepsunread.witnesses import answer_of_world, is_fitting


def check_since(work, book, log, question):
    """The study of the book, if there is an only answer: BadBook, BadLog, BadQuestion, NotSure, NoWorld."""
    study = study_of(work, book)
    if not is_below(log, len(book)) or any([link is not None for link in study.outline.links[log:]]):
        raise BadLog(log)
    if not is_asked(work, book, question) or names_log(question):
        raise BadQuestion(question)
    only_answer(study, question)
    return study


def since(work, book, log, question):
    """(number, tree, pair): with how many first events of the log the question has an only answer.

    BadBook, BadLog, BadQuestion, NotSure, NoWorld.
    """
    study = check_since(work, book, log, question)
    pair = None
    for number in range(len(book[log]) + 1):
        finding = Finding(study.cut(log, number).grown(), question, (), 2)
        grown = finding.grow()
        if len(finding.found) == 1:
            return study.tell(("since", log, question), (number, grown, pair))
        pair = tuple([row[1] for row in finding.answer_rows()])
    return None


def shows_since(work, book, log, question, value):
    """Whether the value is what since could tell, with any tree and worlds.

    BadBook, BadLog, BadQuestion, NotSure, NoWorld.
    """
    study = check_since(work, book, log, question)
    if study.was_told(("since", log, question), value):
        return True
    if not isinstance(value, tuple) or len(value) != 3 or not is_below(value[0], len(book[log]) + 1):
        return False
    number, grown, pair = value
    found = leaf_answers(study.cut(log, number).grown(), question, grown)
    # Some world fits: so there is an answer, and it is the only one with more events, too.
    if found is None or len(found) != 1:
        return False
    return pair is None if number == 0 else differ(study.cut(log, number - 1).outline, question, pair)


def differ(outline, question, value):
    """Whether the value is a pair of worlds that fit and give unlike answers."""
    if not is_pair(value) or not all([is_fitting(outline, world) for world in value]):
        return False
    one, other = value
    return answer_of_world(outline, one, question) != answer_of_world(outline, other, question)
