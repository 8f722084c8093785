"""Tuples of marks, gone through from few to many: which are barred by rows of marks that they lack."""

from itertools import combinations


def is_barred(chosen, rows):
    """Whether the chosen marks have none of the marks of some row."""
    for row in rows:
        if not any([mark in row for mark in chosen]):
            return True
    return False


def bars_all_ahead(marks, told, rows):
    """Whether of these marks each tuple of fewer than told, and each lesser one of as many, is barred."""
    for many in range(len(told) + 1):
        for chosen in combinations(list(marks), many):
            if chosen == told:
                return True
            if not is_barred(chosen, rows):
                return False
    return True
