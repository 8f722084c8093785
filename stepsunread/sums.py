"""Programs of the kind sums: they read all files, and write sums of them.

What a program writes into one file is told by its weights: a number that
stands alone, and one for each file that is read. Tuples of weights are named
by bits, in their sequence: so an integer tells which of them are possible.
"""

from stepsunread.forms import all_rows, is_contents


def weighed(weights, contents, size):
    """The sum of the contents by their weights, the first weight standing alone."""
    total = weights[0]
    for weight, content in zip(weights[1:], contents):
        total += weight * content
    return total % size


def keeps_rule(weights, inputs, conditions, demand, size):
    """Whether sums by these weights keep the demand for their file, is or not, where the conditions are met."""
    told = dict(conditions)
    if any([weight and file not in told for file, weight in zip(inputs, weights[1:])]):
        # A file that may have any content, and counts, brings each sum: sizes are prime.
        return False
    total = weighed(weights, [told.get(file, 0) for file in inputs], size)
    return (total == demand[2]) == (demand[0] == "is")


def weights_of(column, many, size):
    """The weights that bring these contents, for all contents of so many files, ascending; None if there are none."""
    weights = [column[0]]
    expected = [column[0]]
    distance = len(column)
    for _ in range(many):
        distance //= size
        weight = (column[distance] - column[0]) % size
        weights.append(weight)
        expected = [(total + weight * content) % size for total in expected for content in range(size)]
    return tuple(weights) if expected == column else None


class Sums:
    """All programs of a step of the kind sums."""

    def __init__(self, part):
        self.part = part
        self.size = part.widths[part.inputs[0]]
        self.weights = all_rows([self.size] * (len(part.inputs) + 1))
        self.keeping = [self.kept(place) for place in range(len(part.outputs))]
        # By contents of the files: for each content the bits of the weights that bring it.
        self.bringing = {}

    def kept(self, place):
        """The bits of the weights for this file with which claims are kept."""
        demands = [rule[1][0] for rule in self.part.rules]
        if "fails" in demands:
            return 0
        rules = [rule for rule in self.part.rules if rule[1][0] != "ends" and rule[1][1] == place]
        bits = 0
        for at, weights in enumerate(self.weights):
            if all([keeps_rule(weights, self.part.inputs, rule[0], rule[1], self.size) for rule in rules]):
                bits |= 1 << at
        return bits

    def brought(self, contents):
        """For each content, the bits of the weights that bring it where files have these contents."""
        if contents not in self.bringing:
            table = [0] * self.size
            for at, weights in enumerate(self.weights):
                table[weighed(weights, contents, self.size)] |= 1 << at
            self.bringing[contents] = table
        return self.bringing[contents]

    def weights_left(self, known):
        """For each file that is written, the bits of the weights with which what is known holds; () if none can."""
        rows = list(self.keeping)
        inputs = self.part.inputs
        for way, thing in known.items():
            depth = len(way)
            if thing[0] == "read":
                # Files in another sequence are barred here: the read ahead of each way is known, too.
                if inputs[depth:depth + 1] != (thing[1],):
                    return ()
            elif thing[0] == "fail" or depth < len(inputs):
                return ()
            else:
                table = self.brought(tuple([read[1] for read in way]))
                for place, content in enumerate(thing[1]):
                    rows[place] &= table[content]
        return rows if all([bits != 0 for bits in rows]) else ()

    def has_programs(self):
        """Whether there is any program."""
        return all([bits != 0 for bits in self.keeping])

    def is_program(self, value):
        """Whether the value is one of these programs."""
        ends = self.ends_of(value, 0)
        if ends is None:
            return False
        for place, bits in enumerate(self.keeping):
            weights = weights_of([end[place] for end in ends], len(self.part.inputs), self.size)
            if weights is None or not bits & (1 << self.weights.index(weights)):
                return False
        return True

    def ends_of(self, value, depth):
        """The contents that are written, for all contents that can still be read; None if the form is wrong."""
        if not isinstance(value, tuple):
            return None
        inputs = self.part.inputs
        if depth == len(inputs):
            is_end = len(value) == 2 and value[0] == "end" and is_contents(self.part, value[1])
            return [value[1]] if is_end else None
        if len(value) != 3 or value[0] != "read" or value[1] != inputs[depth]:
            return None
        branches = value[2]
        if not isinstance(branches, tuple) or len(branches) != self.size:
            return None
        ends = []
        for branch in branches:
            more = self.ends_of(branch, depth + 1)
            if more is None:
                return None
            ends += more
        return ends

    def count(self, known):
        """How many programs do what is known."""
        total = 1
        # What one file gets tells nothing of the other one: their numbers multiply.
        for bits in self.weights_left(known) or (0,):
            digits = f"{bits:b}"
            total = total * digits.count("1")
        return total

    def is_possible(self, known):
        """Whether some program does what is known."""
        return self.weights_left(known) != ()

    def things_at(self, known, way):
        """What programs that do what is known, which some do, do behind the way, to which what is known leads."""
        if len(way) < len(self.part.inputs):
            return (("read", self.part.inputs[len(way)]),)
        return self.things(known, way)

    def things(self, known, way):
        """What programs that do what is known, and come to the way, of which nothing is known, do there."""
        rows = self.weights_left(known)
        if rows == ():
            return ()
        inputs = self.part.inputs
        if len(way) < len(inputs):
            return (("read", inputs[len(way)]),)
        table = self.brought(tuple([read[1] for read in way]))
        ends = [()]
        for bits in rows:
            ends = [end + (content,) for end in ends for content in range(self.size) if bits & table[content]]
        return tuple([("end", end) for end in ends])
