"""What words of texts tell: contents, reads, ends, programs, questions, by their forms alone.

UNREAD is told of a word that is not of the form.
"""

from stepsunread.questions import PARTS
from stepsunread.words import is_name, number

# No part of any value: none has a blank in it.
UNREAD = "no such form"


def read_number(word):
    """The number that the word writes."""
    found = number(word)
    return UNREAD if found < 0 else found


def read_name(word):
    """The name that the word is."""
    return word if is_name(word) else UNREAD


def read_noted(word):
    """The content that the word writes, None where it is not noted."""
    return None if word == "?" else read_number(word)


def read_row(word, read):
    """The tuple of what the function reads of each word between commas, () for a lone sign."""
    if word == "-":
        return ()
    row = []
    for item in word.split(","):
        found = read(item)
        if found == UNREAD:
            return UNREAD
        row.append(found)
    return tuple(row)


def read_contents(word):
    """The contents that the word writes."""
    return read_row(word, read_number)


def read_noted_contents(word):
    """The contents that the word writes, of which some are perhaps not noted."""
    return read_row(word, read_noted)


def read_files(word):
    """The tuple of names that the word writes."""
    return read_row(word, read_name)


def read_pair(word):
    """The (file, content) that the word writes."""
    file, sign, content = word.partition(":")
    pair = read_name(file), read_number(content)
    return UNREAD if sign == "" or UNREAD in pair else pair


def read_part(word):
    """The part of reads that the word writes."""
    if word == "..":
        return None
    file, sign, content = word.partition(":")
    pair = None if file == "?" else read_name(file), read_noted(content)
    return UNREAD if sign == "" or UNREAD in pair else pair


def read_way(word):
    """The way that the word writes."""
    return read_row(word, read_pair)


def read_reads(word):
    """The reads that the word writes."""
    return read_row(word, read_part)


def read_end(word):
    """The end that the word writes, perhaps not noted."""
    if word == "*":
        return None
    return "fail" if word == "fail" else read_noted_contents(word)


# How each part of a question is read.
READERS = {
    "log": read_number,
    "moment": read_number,
    "event": read_number,
    "content": read_number,
    "step": read_name,
    "other": read_name,
    "file": read_name,
    "way": read_way,
    "changes": read_way,
    "stand": read_contents,
    "files": read_files,
}
# How each part of an event behind its word is read.
EVENT_READERS = {
    "after": (read_number,),
    "beside": (read_number,),
    "set": (read_name, read_noted),
    "saw": (read_name, read_noted),
    "run": (read_name, read_reads, read_end),
    "begin": (read_name,),
    "reads": (read_name, read_reads),
    "end": (read_name, read_end),
    "break": (read_name, read_noted_contents),
}


def read_parts(words, readers):
    """The tuple of the first word and of what the functions read of the others."""
    if len(words) != 1 + len(readers):
        return UNREAD
    parts = [words[0]]
    for word, read in zip(words[1:], readers):
        parts.append(read(word))
    return UNREAD if UNREAD in parts else tuple(parts)


def read_asked(words):
    """The question that the words write, by its form alone."""
    if words[0] not in PARTS:
        return UNREAD
    return read_parts(words, [READERS[kind] for kind in PARTS[words[0]]])


def read_happened(words):
    """The event that the words write, by its form alone."""
    if words[0] not in EVENT_READERS:
        return UNREAD
    return read_parts(words, EVENT_READERS[words[0]])


class Spelt:
    """The text of a program, read from its beginning on: reached is how far it was read."""

    def __init__(self, part, text):
        self.part = part
        self.text = text
        self.reached = 0

    def word(self):
        """The next word, up to a bracket or a blank."""
        begin = self.reached
        while self.reached < len(self.text) and self.text[self.reached] not in "( )":
            self.reached += 1
        return self.text[begin:self.reached]

    def takes(self, sign):
        """Whether the sign stands next; if so, it is read."""
        is_there = self.text[self.reached:self.reached + 1] == sign
        self.reached += 1 if is_there else 0
        return is_there

    def program(self, depth):
        """The program that stands next, behind so many reads."""
        word = self.word()
        if not self.takes("("):
            end = read_end(word)
            return ("fail",) if end == "fail" else UNREAD if end in (UNREAD, None) else ("end", end)
        # The depth is bounded here, as there may be any number of brackets.
        if word not in self.part.inputs or depth == self.part.most:
            return UNREAD
        branches = []
        for content in range(self.part.widths[word]):
            if content > 0 and not self.takes(" "):
                return UNREAD
            branches.append(self.program(depth + 1))
            if branches[-1] == UNREAD:
                return UNREAD
        return ("read", word, tuple(branches)) if self.takes(")") else UNREAD


def read_spelt(part, text):
    """The program of the step that the text writes, by its form."""
    spelt = Spelt(part, text)
    program = spelt.program(0)
    return program if spelt.reached == len(text) else UNREAD
