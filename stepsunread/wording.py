"""The texts of answers, by which they are told in sequence, and of programs, events, questions and books."""

from stepsunread.questions import PARTS


def content_text(content):
    """The text of a content, perhaps not noted."""
    return "?" if content is None else str(content)


def contents_text(contents):
    """The text of a tuple of contents, of which some are perhaps not noted."""
    return ",".join([content_text(content) for content in contents]) or "-"


def names_text(names):
    """The text of a tuple of names."""
    return ",".join(names) or "-"


def part_text(part):
    """The text of a part of reads, perhaps a gap, perhaps not noted."""
    if part is None:
        return ".."
    file, content = part
    return ("?" if file is None else file) + ":" + content_text(content)


def way_text(way):
    """The text of a way, or of reads."""
    return ",".join([part_text(part) for part in way]) or "-"


def end_text(end):
    """The text of an end, perhaps not noted."""
    if end is None:
        return "*"
    return "fail" if end == "fail" else contents_text(end)


def run_text(run):
    """The text of (way, end)."""
    way, end = run
    return way_text(way) + " " + end_text(end)


def thing_text(thing):
    """The text of a thing that a program does."""
    if thing[0] == "read":
        return "read " + thing[1]
    return "fail" if thing[0] == "fail" else "end " + contents_text(thing[1])


def mark_text(mark):
    """The text of a mark."""
    number, event = mark
    return str(number) + " " + str(event)


# What the answers to questions are that are no numbers, and neither yes nor no.
FORMS = {
    "ran": run_text,
    "run": run_text,
    "wrote": mark_text,
    "does": thing_text,
    "would": end_text,
    "turns": names_text,
}


def answer_text(question, answer):
    """The text of an answer to the question."""
    if answer is None:
        return "*"
    if isinstance(answer, bool):
        return "yes" if answer else "no"
    if isinstance(answer, int):
        return str(answer)
    show = FORMS[question[0]]
    return show(answer)


def by_text(question, answers):
    """The answers to the question, ascending by their texts."""
    return sorted(answers, key=lambda answer: answer_text(question, answer))


def word_text(word):
    """The text of a word, a number or a name."""
    return str(word)


# The parts of events behind the word, by this word.
EVENT_TEXTS = {
    "after": (word_text,),
    "beside": (word_text,),
    "set": (word_text, content_text),
    "saw": (word_text, content_text),
    "run": (word_text, way_text, end_text),
    "begin": (word_text,),
    "reads": (word_text, way_text),
    "end": (word_text, end_text),
    "break": (word_text, contents_text),
}
# The parts of questions that are no words, numbers or names.
PART_TEXTS = {"way": way_text, "changes": way_text, "stand": contents_text, "files": names_text}


def program_text(program):
    """The text of a program."""
    if program[0] == "fail":
        return "fail"
    if program[0] == "end":
        return contents_text(program[1])
    return program[1] + "(" + " ".join([program_text(branch) for branch in program[2]]) + ")"


def event_text(event):
    """The text of an event."""
    words = [event[0]]
    for show, part in zip(EVENT_TEXTS[event[0]], event[1:]):
        words.append(show(part))
    return " ".join(words)


def question_text(question):
    """The text of a question."""
    words = [question[0]]
    for kind, part in zip(PARTS[question[0]], question[1:]):
        show = PART_TEXTS.get(kind, word_text)
        words.append(show(part))
    return " ".join(words)


def book_lines(book):
    """The lines of the text of a book."""
    lines = []
    for log in book:
        lines.append("log")
        lines += ["  " + event_text(event) for event in log]
    return lines
