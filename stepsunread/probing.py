"""Acts at the end of a log: which ones there are, what comes by them, what they are noted as."""

from stepsunread.events import link_of
from stepsunread.forms import all_rows, content_at, is_below, is_content, is_end, is_pair, is_way
from stepsunread.machines import left_by, written
from stepsunread.ways import run_from
from stepsunread.wording import run_text
from stepsunread.weavings import steps_under_way


def is_log_to_act_on(book, value):
    """Whether there is a log of this number at whose end acts can come: alone, none after it, no run under way."""
    if not is_below(value, len(book)) or steps_under_way(book[value])[-1] != ():
        return False
    links = [link_of(log) for log in book]
    is_beside = links[value] is not None and links[value][0] == "beside"
    return not is_beside and ("after", value) not in links and ("beside", value) not in links


def looks(work):
    """All looks, by the sequence of files."""
    return [("look", file) for file in work.files]


def writings(work):
    """All tuples of contents that hands can write into the sources, ascending."""
    return all_rows([work.widths[file] for file in work.sources])


def all_acts(work, is_writing):
    """All acts, looks first, then probes by steps, then by contents."""
    contents = writings(work) if is_writing else [None]
    return looks(work) + [("probe", row, step) for step in work.steps for row in contents]


def price_of(work, prices, act):
    """What the act costs."""
    return prices[0] if act[0] == "look" else prices[1 + work.steps.index(act[2])]


def prepared(work, act, stand):
    """The stand at which the run of a probe begins."""
    return stand if act[1] is None else written(work, stand, work.sources, act[1])


def come(case, act, stand):
    """(outcome, the stand behind it) of an act at the stand; Halt where the choices do not tell it."""
    work = case.layout.work
    if act[0] == "look":
        return case.content(content_at(work, stand, act[1])), stand
    begin = prepared(work, act, stand)
    outcome = run_from(case, act[2], begin)
    return outcome, left_by(work, act[2], begin, outcome[1])


def is_outcome(work, act, value):
    """Whether the value has the form of an outcome of the act."""
    if act[0] == "look":
        return is_content(work, act[1], value)
    part = work.parts[act[2]]
    return is_pair(value) and is_way(part, value[0]) and is_end(part, value[1])


def outcome_text(outcome):
    """The text of an outcome."""
    return str(outcome) if isinstance(outcome, int) else run_text(outcome)


def hands_of(act):
    """What hands write by the act."""
    return act[1] if act[0] == "probe" and act[1] is not None else ()


def events_of(work, act, outcome):
    """What is noted of the act and its outcome."""
    if act[0] == "look":
        return (("saw", act[1], outcome),)
    sets = [("set", file, content) for file, content in zip(work.sources, hands_of(act))]
    return tuple(sets) + (("run", act[2], outcome[0], outcome[1]),)

