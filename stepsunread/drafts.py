"""The text of a work, taken line by line."""

from stepsunread.claims import read_claim
from stepsunread.counting import shape_of
from stepsunread.errors import BadWork
from stepsunread.parts import Part
from stepsunread.words import is_name

KINDS = ("tree", "row", "flat", "sums")
# Numbers as they are written, without leading zeros.
SIZES = {"2": 2, "3": 3, "4": 4}
MOSTS = {"0": 0, "1": 1, "2": 2, "3": 3}
MOST_FILES = 6
MOST_STEPS = 3
MOST_READ = 4
MOST_WRITTEN = 2
MOST_CLAIMS = 3


class Draft:
    """A work of which the first lines are told: sizes by files, parts by steps."""

    def __init__(self):
        self.widths = {}
        self.parts = {}
        # The files that are written.
        self.written = []
        # The part whose lines are being told.
        self.last = None

    def take(self, line):
        """Whether the line can stand here; if so, it is told."""
        words = line.split(" ")
        first = words[0]
        if first == "file":
            return self.take_file(words)
        if first == "step":
            return self.take_step(words)
        if first != "" or len(words) < 3 or words[1] != "" or self.last is None:
            return False
        if words[2] == "reads":
            return self.take_reads(words[3:])
        if words[2] == "writes":
            return self.take_writes(words[3:])
        return words[2] == "claim" and self.take_claim(words[3:])

    def take_file(self, words):
        """Take file NAME SIZE."""
        if len(words) != 3 or self.parts or len(self.widths) == MOST_FILES:
            return False
        _, name, size = words
        if size not in SIZES or name in self.widths or not is_name(name):
            return False
        self.widths[name] = SIZES[size]
        return True

    def take_step(self, words):
        """Take step NAME KIND MOST."""
        if len(words) != 4 or not self.widths or len(self.parts) == MOST_STEPS:
            return False
        if self.last is not None and self.last.outputs == ():
            return False
        _, name, kind, most = words
        if most not in MOSTS or kind not in KINDS or name in self.parts or not is_name(name):
            return False
        self.last = Part(name, kind, MOSTS[most])
        self.parts[name] = self.last
        return True

    def is_whole(self):
        """Whether nothing lacks at the end."""
        return self.last is not None and self.last.outputs != ()

    def are_files(self, names, most):
        """Whether these are different files, one at least and at most so many."""
        if not 1 <= len(names) <= most:
            return False
        for name in names:
            if name not in self.widths or names.count(name) > 1:
                return False
        return True

    def take_reads(self, names):
        """Take the files that the last step reads."""
        last = self.last
        if last.inputs != () or not self.are_files(names, MOST_READ):
            return False
        last.inputs = tuple(names)
        return True

    def take_writes(self, names):
        """Take the files that the last step writes."""
        last = self.last
        if last.inputs == () or last.outputs != () or not self.are_files(names, MOST_WRITTEN):
            return False
        for name in names:
            if name in last.inputs or name in self.written:
                return False
        self.written += names
        last.outputs = tuple(names)
        last.widths = {name: self.widths[name] for name in last.inputs + last.outputs}
        return has_room(last)

    def take_claim(self, words):
        """Take a claim of the last step."""
        last = self.last
        if last.outputs == () or len(last.claimed) == MOST_CLAIMS:
            return False
        rule = read_claim(last, words)
        if rule is None:
            return False
        last.add_rule(" ".join(words), rule)
        return shape_of(last).has_programs()


def has_room(part):
    """Whether MOST and the sizes are such as the kind of the step asks."""
    if part.kind != "sums":
        return part.most <= len(part.inputs)
    sizes = part.input_sizes() + part.output_sizes()
    return part.most == len(part.inputs) and sizes[0] in (2, 3) and sizes == [sizes[0]] * len(sizes)


def read_draft(text):
    """The draft that a text tells: BadWork."""
    if not isinstance(text, str):
        raise BadWork(0)
    draft = Draft()
    lines = text.split("\n")
    for at, line in enumerate(lines):
        if not draft.take(line):
            raise BadWork(at)
    if not draft.is_whole():
        raise BadWork(len(lines))
    return draft
