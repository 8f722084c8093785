"""Tests of the program.

What was told before is taken at once when it is looked at again. Here that is
switched off, so that each test of evidence has it looked at in full;
tests/test_kept.py tests it as it is.
"""

from stepsunread.studies import Study

REAL_WAS_TOLD = Study.was_told


def never_told(study, place, value):
    return False


Study.was_told = never_told
