"""The words of which texts are made: names and numbers."""

MOST_LETTERS = 8
MOST_DIGITS = 9


def is_name(word):
    """Whether the word is 1 to 8 letters a to z."""
    # An empty word has no letters.
    return len(word) <= MOST_LETTERS and word.isalpha() and word.islower() and word.isascii()


def number(word):
    """The number that the word writes, or -1 where it writes none."""
    # The length comes first: Python itself refuses to read very long numbers.
    if len(word) > MOST_DIGITS or not (word.isascii() and word.isdigit()):
        return -1
    if word[0] == "0" and word != "0":
        return -1
    return int(word)
