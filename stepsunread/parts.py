"""What a work tells of one of its steps."""


class Part:
    """A step: its line, the files that it reads and writes, its claims."""

    def __init__(self, name, kind, most):
        self.name = name
        self.kind = kind
        self.most = most
        self.inputs = ()
        self.outputs = ()
        # The size of each file that the step reads or writes.
        self.widths = {}
        # The claims as they are written, and as rules (stepsunread/rules.py).
        self.claimed = ()
        self.rules = ()
        # What was worked out of its programs as a whole (see shape_of in stepsunread/counting.py).
        self.shape = None

    def input_sizes(self):
        """The sizes of the files that it reads."""
        return [self.widths[file] for file in self.inputs]

    def output_sizes(self):
        """The sizes of the files that it writes."""
        return [self.widths[file] for file in self.outputs]

    def add_rule(self, claim, rule):
        """One claim more, and the rule that it writes."""
        self.claimed += (claim,)
        self.rules += (rule,)
        # What was worked out so far holds no more.
        self.shape = None
