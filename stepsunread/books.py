"""Logs and books."""

from stepsunread.events import HANDS, LINKS, body_of, is_event, link_of
from stepsunread.weavings import STOPS, has_weaving

MOST_EVENTS = 20
MOST_LOGS = 3
# The words of events that stand amid a run of their step.
GOING_ON = ("reads", "end", "break")


def is_log(work, value):
    """Whether the value is a log without after and beside."""
    return is_short(value) and is_sequence(work, value)


def is_book(work, value):
    """Whether the value is a book."""
    if not isinstance(value, tuple) or not 1 <= len(value) <= MOST_LOGS:
        return False
    if not all([is_log_of_book(work, log, at) for at, log in enumerate(value)]):
        return False
    pairs = pairs_of(value)
    if not pairs:
        return True
    paired = [log for pair in pairs for log in pair]
    if len(set(paired)) < len(paired):
        return False
    return all([has_weaving(body_of(value[one]), body_of(value[other])) for one, other in pairs])


def is_short(value):
    """Whether the value is a tuple with at most as many items as a log has events."""
    return isinstance(value, tuple) and len(value) <= MOST_EVENTS


def is_log_of_book(work, value, number):
    """Whether the value can be the log of this number, beside and after lesser ones."""
    if not is_short(value):
        return False
    # No log is of a lesser number than the first one, which cannot begin as another one, then.
    if number == 0 or not value or not is_event(work, value[0]) or value[0][0] not in LINKS:
        return is_sequence(work, value)
    return value[0][1] < number and is_sequence(work, value[1:])


def is_sequence(work, events):
    """Whether these are events that can come one behind the other, after and beside apart."""
    running = []
    for event in events:
        if not is_event(work, event):
            return False
        word = event[0]
        if word in HANDS:
            continue
        name = event[1]
        if word in LINKS or (name in running) != (word in GOING_ON):
            return False
        if word == "begin":
            running.append(name)
        elif word in STOPS:
            running.remove(name)
    return True


def pairs_of(book):
    """(number, number of the log that is beside it) for each pair."""
    pairs = []
    for number, log in enumerate(book):
        link = link_of(log)
        if link is not None and link[0] == "beside":
            pairs.append((link[1], number))
    return pairs
