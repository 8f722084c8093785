"""Claims as rules: which ends they leave open behind which ways.

A rule is (conditions, demand): conditions a tuple of (file, content), and a
demand one of ("fails",), ("ends",), ("is", place, content) and
("not", place, content), place being the number of a file that is written.
"""

from stepsunread.forms import all_rows


def is_met(conditions, way):
    """Whether some stand that leads down the way meets the conditions."""
    for file, content in conditions:
        for read, found in way:
            if read == file and found != content:
                return False
    return True


def suits(demand, thing):
    """Whether a program that ends with this thing does what is demanded."""
    fails = thing[0] == "fail"
    if demand[0] == "fails":
        return fails
    if demand[0] == "ends":
        return not fails
    _, place, content = demand
    if demand[0] == "is":
        return not fails and thing[1][place] == content
    return fails or thing[1][place] != content


def can_end(rules, way, thing):
    """Whether the rules let a program end with this thing behind the way."""
    return all([suits(demand, thing) for conditions, demand in rules if is_met(conditions, way)])


def all_ends(part):
    """All things with which a program of the step could end, ascending."""
    return [("end", row) for row in all_rows(part.output_sizes())] + [("fail",)]
