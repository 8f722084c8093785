"""Claims as rules: which ends they leave open behind which ways.

A rule is (conditions, demand): conditions a tuple of (file, content), and a
demand one of ("fails",), ("ends",), ("is", place, content) and
("not", place, content), place being the number of a file that is written.
"""

from stepsunread.forms import all_rows


def suits(demand, thing):
    """Whether a program that ends with this thing does what is demanded."""
    fails = thing[0] == "fail"
    if demand[0] == "fails":
        return fails
    if demand[0] == "ends":
        return not fails
    _, place, content = demand
    if demand[0] == "is":
        return not fails and thing[1][place] == content
    return fails or thing[1][place] != content


def all_ends(part):
    """All things with which a program of the step could end, ascending."""
    return [("end", row) for row in all_rows(part.output_sizes())] + [("fail",)]


class Breaks:
    """Which rules of a step bind behind a way, and which ends they leave open there.

    Rules are named by bits: 1 for the first, 2 for the second, 4 for the third.
    A rule is broken off behind a way if no stand that leads down it meets its
    conditions; all others bind.
    """

    def __init__(self, part):
        self.rules = part.rules
        self.ends = all_ends(part)
        # By reads: the rules that they break off.
        self.broken = {}
        # By the rules that are broken off: the ends that the others leave open.
        self.suiting = {}
        for at, rule in enumerate(part.rules):
            for file, content in rule[0]:
                for other in range(part.widths[file]):
                    if other != content:
                        self.broken[file, other] = self.broken.get((file, other), 0) | (1, 2, 4)[at]

    def off_by(self, read):
        """The rules that the read breaks off."""
        return self.broken.get(read, 0)

    def off_behind(self, way):
        """The rules that are broken off behind the way."""
        bits = 0
        if self.broken:
            for read in way:
                bits |= self.broken.get(read, 0)
        return bits

    def ends_left(self, bits):
        """The ends that can stand where these rules are broken off, ascending."""
        if bits not in self.suiting:
            demands = [rule[1] for at, rule in enumerate(self.rules) if not bits & (1, 2, 4)[at]]
            self.suiting[bits] = [end for end in self.ends if all([suits(demand, end) for demand in demands])]
        return self.suiting[bits]
