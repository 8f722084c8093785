"""How many programs of a step have facts, for each kind of step."""

from itertools import permutations

from stepsunread.rules import all_ends, can_end, is_met
from stepsunread.sums import count_sums


class Leaves:
    """The ends that the claims of a step leave open, by the way that leads to them."""

    def __init__(self, part):
        self.part = part
        self.ends = all_ends(part)
        self.counts = {}

    def many(self, way):
        """How many ends can stand behind the way."""
        rules = self.part.rules
        # Only the claims that are met count, and they are few: so ways share their numbers.
        met = tuple([is_met(rule[0], way) for rule in rules])
        if met not in self.counts:
            self.counts[met] = len([end for end in self.ends if can_end(rules, way, end)])
        return self.counts[met]


class Tally:
    """Counts programs of a step that read the files of an order, one at each depth.

    Where the order is None, they read any files. In a full one each way down
    goes through the whole order, otherwise it may end at each place.
    """

    def __init__(self, leaves, order, is_full):
        self.part = leaves.part
        self.leaves = leaves
        self.order = order
        self.is_full = is_full
        self.known = {}

    def next_files(self, way):
        """The files that can be read behind the way."""
        if self.order is not None:
            return self.order[len(way):len(way) + 1]
        if len(way) == self.part.most:
            return ()
        seen = [read[0] for read in way]
        return tuple([file for file in self.part.inputs if file not in seen])

    def is_leaf(self, way):
        """Whether a program can end behind the way."""
        return not self.is_full or len(way) == len(self.order)

    def free(self, way):
        """How many ways to go on there are behind the way, nothing being known."""
        key = tuple(sorted(way))
        if key not in self.known:
            total = self.leaves.many(way) if self.is_leaf(way) else 0
            for file in self.next_files(way):
                total += self.branches(way, file, [])
            self.known[key] = total
        return self.known[key]

    def branches(self, way, file, facts):
        """How many ways to go on there are behind the way if the file is read."""
        total = 1
        for content in range(self.part.widths[file]):
            read = (file, content)
            beyond = [fact for fact in facts if fact[0][len(way):len(way) + 1] == (read,)]
            total = total * self.below(way + (read,), beyond)
        return total

    def below(self, way, facts):
        """How many ways to go on have the facts, all of which begin with the way."""
        if not facts:
            return self.free(way)
        thing = asked(facts[0], len(way))
        if any([asked(fact, len(way)) != thing for fact in facts]):
            return 0
        if thing[0] != "read":
            return 1 if self.is_leaf(way) and can_end(self.part.rules, way, thing) else 0
        if thing[1] not in self.next_files(way):
            return 0
        return self.branches(way, thing[1], facts)


def asked(fact, depth):
    """What the fact asks a program to do at this depth of its way."""
    way, thing = fact
    return thing if len(way) == depth else ("read", way[depth][0])


def orders(part):
    """All sequences of files that the step can read, each file once."""
    rows = []
    for many in range(part.most + 1):
        rows += list(permutations(list(part.inputs), many))
    return rows


def count_levels(leaves, order, facts):
    """How many programs of the kind row read just the files of the order, to its whole depth."""
    total = Tally(leaves, order, False).below((), facts)
    if order:
        total -= Tally(leaves, order[:-1], False).below((), facts)
    return total


def count_programs(part, facts):
    """How many programs of the step have all facts."""
    if part.kind == "sums":
        return count_sums(part, facts)
    leaves = Leaves(part)
    if part.kind == "tree":
        return Tally(leaves, None, False).below((), facts)
    if part.kind == "row":
        return sum([count_levels(leaves, order, facts) for order in orders(part)])
    return sum([Tally(leaves, order, True).below((), facts) for order in orders(part)])
