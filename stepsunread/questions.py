"""Which values are questions about a book."""

from stepsunread.books import is_book
from stepsunread.errors import BadBook
from stepsunread.forms import is_below, is_content, is_pair, is_stand, is_way
from stepsunread.works import part_of

# The parts of each question, by its word; each kind of part has its check below.
PARTS = {
    "stood": ("log", "moment", "file"),
    "ran": ("log", "event"),
    "wrote": ("log", "moment", "file"),
    "had": ("log", "event", "content", "file"),
    "does": ("step", "way"),
    "uses": ("step", "file"),
    "run": ("step", "stand"),
    "same": ("step", "other", "stand"),
    "moves": ("step", "stand", "file", "content"),
    "keeps": ("step", "stand", "files"),
    "would": ("log", "step"),
    "fresh": ("log", "step"),
    "still": ("log",),
    "swept": ("log", "file"),
    "sweeps": ("log",),
    "turns": ("log", "changes"),
    "rests": (),
    "aside": ("log", "step", "other"),
    "apart": ("step", "other"),
}
# The word of the events that a question may name.
EVENTS = {"ran": "run", "had": "set"}


def is_log_number(work, book, told, value):
    """Whether there is a log of this number."""
    return is_below(value, len(book))


def is_moment(work, book, told, value):
    """Whether the log has so many events."""
    return is_below(value, len(book[told["log"]]) + 1)


def is_event_number(work, book, told, value):
    """Whether the log has an event of this number, and of the word that the question asks."""
    log = book[told["log"]]
    return is_below(value, len(log)) and log[value][0] == EVENTS[told["word"]]


def is_step(work, book, told, value):
    """Whether there is such a step."""
    return value in work.steps


def is_other(work, book, told, value):
    """Whether there is such a step, another one than the first that is told."""
    if value not in work.steps or value == told["step"]:
        return False
    return told["word"] != "same" or len(work.writes(value)) == len(work.writes(told["step"]))


def is_file(work, book, told, value):
    """Whether there is such a file."""
    return value in work.files


def is_content_told(work, book, told, value):
    """Whether the file that the question, or its event, names can have this content."""
    file = told["file"] if told["word"] == "moves" else book[told["log"]][told["event"]][1]
    return is_content(work, file, value)


def is_way_told(work, book, told, value):
    """Whether the value is a way of the step."""
    return is_way(part_of(work, told["step"]), value)


def is_stand_told(work, book, told, value):
    """Whether the value is a stand."""
    return is_stand(work, value)


def are_ascending(names):
    """Whether the names are sorted, none twice."""
    return all([name < later for name, later in zip(names, names[1:])])


def are_files(work, book, told, value):
    """Whether the value is an ascending tuple of files."""
    if not isinstance(value, tuple) or not all([name in work.files for name in value]):
        return False
    return are_ascending(value)


def are_changes(work, book, told, value):
    """Whether the value is an ascending tuple of (file, content), no file twice."""
    if not isinstance(value, tuple) or not all([is_change(work, item) for item in value]):
        return False
    return are_ascending([item[0] for item in value])


def is_change(work, value):
    """Whether the value is (file, content)."""
    return is_pair(value) and value[0] in work.files and is_content(work, value[0], value[1])


CHECKS = {
    "log": is_log_number,
    "moment": is_moment,
    "event": is_event_number,
    "step": is_step,
    "other": is_other,
    "file": is_file,
    "content": is_content_told,
    "way": is_way_told,
    "stand": is_stand_told,
    "files": are_files,
    "changes": are_changes,
}


def is_question(work, book, value):
    """Whether the value is a question about the book: BadBook."""
    if not is_book(work, book):
        raise BadBook(book)
    return is_asked(work, book, value)


def is_asked(work, book, value):
    """Whether the value is a question about the book, which is one (but for how long its logs are)."""
    if not isinstance(value, tuple) or not value or not isinstance(value[0], str):
        return False
    if value[0] not in PARTS or len(value) != 1 + len(PARTS[value[0]]):
        return False
    # What the parts so far are: what the next one can be hangs on it.
    told = {"word": value[0]}
    for kind, part in zip(PARTS[value[0]], value[1:]):
        check = CHECKS[kind]
        if not check(work, book, told, part):
            return False
        told[kind] = part
    return True


def names_log(question):
    """Whether the question is one about a log."""
    return "log" in PARTS[question[0]]
