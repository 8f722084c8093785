"""The texts of answers, by which they are told in sequence."""


def content_text(content):
    """The text of a content, perhaps not noted."""
    return "?" if content is None else str(content)


def contents_text(contents):
    """The text of a tuple of contents, of which some are perhaps not noted."""
    return ",".join([content_text(content) for content in contents]) or "-"


def names_text(names):
    """The text of a tuple of names."""
    return ",".join(names) or "-"


def part_text(part):
    """The text of a part of reads, perhaps a gap, perhaps not noted."""
    if part is None:
        return ".."
    file, content = part
    return ("?" if file is None else file) + ":" + content_text(content)


def way_text(way):
    """The text of a way, or of reads."""
    return ",".join([part_text(part) for part in way]) or "-"


def end_text(end):
    """The text of an end, perhaps not noted."""
    if end is None:
        return "*"
    return "fail" if end == "fail" else contents_text(end)


def run_text(run):
    """The text of (way, end)."""
    way, end = run
    return way_text(way) + " " + end_text(end)


def thing_text(thing):
    """The text of a thing that a program does."""
    if thing[0] == "read":
        return "read " + thing[1]
    return "fail" if thing[0] == "fail" else "end " + contents_text(thing[1])


def mark_text(mark):
    """The text of a mark."""
    number, event = mark
    return str(number) + " " + str(event)


# What the answers to questions are that are no numbers, and neither yes nor no.
FORMS = {
    "ran": run_text,
    "run": run_text,
    "wrote": mark_text,
    "does": thing_text,
    "would": end_text,
    "turns": names_text,
}


def answer_text(question, answer):
    """The text of an answer to the question."""
    if answer is None:
        return "*"
    if isinstance(answer, bool):
        return "yes" if answer else "no"
    if isinstance(answer, int):
        return str(answer)
    show = FORMS[question[0]]
    return show(answer)


def by_text(question, answers):
    """The answers to the question, ascending by their texts."""
    return sorted(answers, key=lambda answer: answer_text(question, answer))
