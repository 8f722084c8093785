"""From which note on something was known."""

from stepsunread.books import is_book
from stepsunread.errors import BadBook, BadLog, BadQuestion
from stepsunread.events import link_of
from stepsunread.finding import Finding, answer_of_world, only_answer
from stepsunread.forms import is_below, is_pair
from stepsunread.layouts import Layout
from stepsunread.looking import leaf_answers
from stepsunread.questions import is_question, names_log
from stepsunread.worlds import is_fitting


def check_since(work, book, log, question):
    """The only answer: BadBook, BadLog, BadQuestion, NotSure, NoWorld."""
    if not is_book(work, book):
        raise BadBook(book)
    if not is_below(log, len(book)) or any([link_of(told) is not None for told in book[log:]]):
        raise BadLog(log)
    if not is_question(work, book, question) or names_log(question):
        raise BadQuestion(question)
    return only_answer(work, book, question)


def cut(book, log, number):
    """The book with the first events of the log alone."""
    return book[:log] + (book[log][:number],) + book[log + 1:]


def since(work, book, log, question):
    """(number, tree, pair): with how many first events of the log the question has an only answer.

    BadBook, BadLog, BadQuestion, NotSure, NoWorld.
    """
    check_since(work, book, log, question)
    pair = None
    for number in range(len(book[log]) + 1):
        finding = Finding(Layout(work, cut(book, log, number), ()), question, (), 2)
        grown = finding.grow()
        if len(finding.found) == 1:
            return number, grown, pair
        pair = tuple([row[1] for row in finding.answer_rows()])
    return None


def shows_since(work, book, log, question, value):
    """Whether the value is what since could tell, with any tree and worlds.

    BadBook, BadLog, BadQuestion, NotSure, NoWorld.
    """
    check_since(work, book, log, question)
    if not isinstance(value, tuple) or len(value) != 3 or not is_below(value[0], len(book[log]) + 1):
        return False
    number, grown, pair = value
    found = leaf_answers(Layout(work, cut(book, log, number), ()), question, grown)
    # Some world fits: so there is an answer, and it is the only one with more events, too.
    if found is None or len(found) != 1:
        return False
    return pair is None if number == 0 else differ(work, cut(book, log, number - 1), question, pair)


def differ(work, book, question, value):
    """Whether the value is a pair of worlds that fit and give unlike answers."""
    if not is_pair(value) or not all([is_fitting(work, book, world) for world in value]):
        return False
    one, other = value
    return answer_of_world(work, book, one, question) != answer_of_world(work, book, other, question)
