"""Claims of a step: from their words to rules (stepsunread/rules.py)."""

from stepsunread.words import number

SIGNS = {"=": "is", "!=": "not"}
LONE_ENDS = ("fails", "ends")


def read_claim(part, words):
    """The rule that the words write, or None where they are no claim of the step."""
    if not words:
        return None
    # Counted from the end, as files may be called if, and, then, fails or ends.
    many = 1 if words[-1] in LONE_ENDS else 3
    demand = read_demand(part, words[-many:])
    conditions = read_conditions(part, words[:-many])
    if demand is None or conditions is None:
        return None
    return conditions, demand


def read_demand(part, words):
    """The demand that the words of an END write, or None."""
    if len(words) == 1 and words[0] in LONE_ENDS:
        return (words[0],)
    if len(words) != 3 or words[0] not in part.outputs or words[1] not in SIGNS:
        return None
    content = read_content(part, words[0], words[2])
    if content is None:
        return None
    return SIGNS[words[1]], part.outputs.index(words[0]), content


def read_conditions(part, words):
    """The conditions that the words ahead of END write, or None."""
    if not words:
        return ()
    if len(words) not in (5, 9) or words[0] != "if" or words[-1] != "then":
        return None
    if len(words) == 9 and words[4] != "and":
        return None
    pairs = tuple([read_condition(part, words[at:at + 3]) for at in range(1, len(words) - 1, 4)])
    files = [pair[0] for pair in pairs if pair is not None]
    if len(files) < len(pairs) or len(set(files)) < len(files):
        return None
    return pairs


def read_condition(part, words):
    """The (file, content) that FILE = C writes, of a file that the step reads, or None."""
    file, sign, word = words
    if sign != "=" or file not in part.inputs:
        return None
    content = read_content(part, file, word)
    return None if content is None else (file, content)


def read_content(part, file, word):
    """The content of the file that the word writes, or None."""
    content = number(word)
    return content if 0 <= content < part.widths[file] else None
