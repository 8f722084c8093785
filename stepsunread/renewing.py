"""What a house does with what it knows: words, renewals, and acts that reach a goal."""

from stepsunread.acts import cheapest
from stepsunread.clashes import clash
from stepsunread.errors import Clash, NoWorld
from stepsunread.probing import hands_of, price_of
from stepsunread.studies import study_of


def check_clash(work, book):
    """Clash if no world fits the book."""
    if not study_of(work, book).has_world():
        raise Clash(clash(work, book)[0])


def answers_of_record(record, question, is_few=False):
    """The answers to the question, no more than two if is_few, ascending by their texts: Clash."""
    work, book = record.mill.work, record.logs()
    study = study_of(work, book)
    found = study.few_answers(question) if is_few else study.answers(question)
    if not found:
        raise Clash(clash(work, book)[0])
    return found


def is_surely_fresh(record, step):
    """Whether a run of the step would surely leave all as it stands: Clash."""
    return answers_of_record(record, ("fresh", record.own_number(), step), True) == (True,)


def renew(record, most, is_restoring):
    """Sweeps, at most so many; (step, "restored" or "made") for each step that was not left: Clash, Full."""
    rows = []
    for _ in range(most):
        many = len(rows)
        for step in record.mill.work.steps:
            if not is_surely_fresh(record, step):
                rows.append((step, renew_step(record, step, is_restoring)))
        if len(rows) == many:
            return tuple(rows)
    check_clash(record.mill.work, record.logs())
    return tuple(rows)


def renew_step(record, step, is_restoring):
    """The files of the step are brought up to date: how, restored or made: Clash, Full."""
    ends = answers_of_record(record, ("would", record.own_number(), step), True) if is_restoring else ()
    if len(ends) != 1:
        record.make(step)
        return "made"
    # What surely fails leaves all as it stands, and was left: so there is something to write.
    for file, content in zip(record.mill.work.writes(step), ends[0]):
        record.put(file, content, True)
    return "restored"


def reach(record, goal, prices, most, is_writing):
    """The price that was paid for acts that reach the goal, None if there is no plan.

    BadGoal, BadPrices, BadCount, BadTruth, Clash, Full.
    """
    work, book = record.mill.work, record.logs()
    try:
        told = cheapest(work, book, record.own_number(), goal, prices, most, is_writing=is_writing)
    except NoWorld:
        raise Clash(clash(work, book)[0])
    if told[0] == "none":
        return None
    paid = 0
    plan = told[2]
    while plan[0] == "act":
        _, act, rows = plan
        outcome = do_act(record, act)
        paid += price_of(work, prices, act)
        found = [beyond for other, beyond in rows if other == outcome]
        if not found:
            # What comes in no world that fits was told otherwise.
            raise Clash(clash(work, record.logs())[0])
        plan = found[0]
    return paid


def do_act(record, act):
    """The act is done: its outcome: Full."""
    if act[0] == "look":
        return record.look(act[1])
    work = record.mill.work
    for file, content in zip(work.sources, hands_of(act)):
        record.put(file, content, True)
    return record.make(act[2])
