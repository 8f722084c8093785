"""How many worlds fit, and how they are shared among the answers to a question."""

from stepsunread.asking import study_asked
from stepsunread.errors import BadMarks
from stepsunread.finding import contents_of, programs_of, shares_of
from stepsunread.marks import are_marks
from stepsunread.studies import study_of
from stepsunread.wording import by_text


def worlds(work, book, *, left=()):
    """How many worlds fit but for left out marks: BadBook, BadMarks."""
    study = study_of(work, book)
    if not are_marks(book, left):
        raise BadMarks(left)
    return sum([programs_of(case) * contents_of(case) for case in study.grown(left, ()).all_cases()])


def shares(work, book, question):
    """(answer, number) for each answer, with the number of worlds that fit and give it: BadBook, BadQuestion."""
    study = study_asked(work, book, question)
    counts = {}
    for case in study.grown((), study.logs_of(question)).all_cases():
        whole = contents_of(case)
        for answer, crews, part in shares_of(case, question):
            counts[answer] = counts.get(answer, 0) + crews * (whole // part)
    return tuple([(answer, counts[answer]) for answer in by_text(question, list(counts))])
