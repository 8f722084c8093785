"""A desk: a house, asked and told by lines."""

from stepsunread.counts import worlds
from stepsunread.errors import BadHouse, BadLine
from stepsunread.houses import House
from stepsunread.spelling import UNREAD, read_asked, read_name, read_number
from stepsunread.wording import answer_text, contents_text, end_text, run_text, way_text

DONE = "done"
# The parts of lines behind the first word, by this word; a question takes all words that are left.
LINES = {
    "put": ("name", "number"),
    "hide": ("name", "number"),
    "look": ("name",),
    "make": ("name",),
    "begin": ("name",),
    "on": ("name",),
    "finish": ("name",),
    "stop": ("name", "number"),
    "word": ("name",),
    "ask": ("question",),
    "count": (),
    "renew": ("number",),
    "restore": ("number",),
    "know": ("number", "question"),
    "all": ("number",),
    "undo": (),
    "turn": (),
}


def read_line(line):
    """(word, parts) of the line: BadLine."""
    words = line.split(" ") if isinstance(line, str) else [""]
    if words[0] not in LINES:
        raise BadLine(line)
    parts, rest = [], words[1:]
    for kind in LINES[words[0]]:
        if not rest:
            raise BadLine(line)
        if kind == "question":
            parts.append(read_asked(rest))
            rest = []
        else:
            parts.append(read_name(rest[0]) if kind == "name" else read_number(rest[0]))
            rest = rest[1:]
    if rest or UNREAD in parts:
        raise BadLine(line)
    return words[0], parts


def put(house, file, content):
    """A hand writes."""
    house.put(file, content)
    return DONE


def hide(house, file, content):
    """A hand writes, and it is not noted what."""
    house.put(file, content, is_noted=False)
    return DONE


def look(house, file):
    """The content of a file."""
    return str(house.look(file))


def make(house, step):
    """A whole run."""
    return run_text(house.make(step))


def begin(house, step):
    """A run begins."""
    house.begin(step)
    return DONE


def read_on(house, step):
    """A run reads on."""
    read = house.read_on(step)
    return way_text(() if read is None else (read,))


def finish(house, step):
    """A run ends."""
    reads, end = house.finish(step)
    return way_text(reads) + " " + end_text(end)


def stop(house, step, many):
    """A run is broken off."""
    reads, contents = house.stop(step, many)
    return way_text(reads) + " " + contents_text(contents)


def word(house, step):
    """Whether a step is fresh."""
    return house.word(step)


def ask(house, question):
    """The answers to a question."""
    return " / ".join([answer_text(question, answer) for answer in house.answers(question)]) or "-"


def count(house):
    """How many worlds fit."""
    return str(worlds(house.work, house.book))


def rows_text(rows):
    """The text of what a renewal did."""
    return " / ".join([step + " " + how for step, how in rows]) or "-"


def renew(house, most):
    """A renewal."""
    return rows_text(house.renew(most))


def restore(house, most):
    """A renewal that restores."""
    return rows_text(house.renew(most, is_restoring=True))


def reach(house, goal, most):
    """The price that was paid for acts, each for 1."""
    paid = house.reach(goal, (1,) * (1 + len(house.work.steps)), most)
    return "none" if paid is None else str(paid)


def know(house, most, question):
    """Acts behind which a question is sure."""
    return reach(house, ("know", question), most)


def know_all(house, most):
    """Acts behind which all is sure."""
    return reach(house, ("all",), most)


def undo(house):
    """The last deed is taken back."""
    house.undo()
    return DONE


def turn(house):
    """The own log becomes an elder one."""
    house.turn()
    return DONE


DEEDS = {
    "put": put,
    "hide": hide,
    "look": look,
    "make": make,
    "begin": begin,
    "on": read_on,
    "finish": finish,
    "stop": stop,
    "word": word,
    "ask": ask,
    "count": count,
    "renew": renew,
    "restore": restore,
    "know": know,
    "all": know_all,
    "undo": undo,
    "turn": turn,
}


class Desk:
    """A house that is told by lines what to do: BadHouse."""

    def __init__(self, house):
        if not isinstance(house, House):
            raise BadHouse(house)
        self.house = house

    def say(self, line):
        """The answer to the line: BadLine, and the errors of what it stands for."""
        name, parts = read_line(line)
        deed = DEEDS[name]
        return deed(self.house, *parts)
