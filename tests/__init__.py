"""Tests of the program.

What was told before is taken at once when it is looked at again, and trees are
held beside those that are known. Here that is switched off, so that each test
of evidence has it looked at in full; tests/test_kept.py tests it as it is.
"""

from stepsunread import looking
from stepsunread.studies import Study

REAL = Study.was_told, looking.known_like


def never(*values):
    return None


def look_in_full(is_so=True):
    """Have evidence looked at in full, or as it is otherwise."""
    Study.was_told, looking.known_like = (never, never) if is_so else REAL


look_in_full()
