"""What a work tells of one of its steps."""


class Part:
    """A step: its line, the files that it reads and writes, its claims."""

    def __init__(self, name, kind, most):
        self.name = name
        self.kind = kind
        self.most = most
        self.inputs = ()
        self.outputs = ()
        # The size of each file that the step reads or writes.
        self.widths = {}
        # The claims as they are written, and as rules (stepsunread/rules.py).
        self.claimed = ()
        self.rules = ()

    def input_sizes(self):
        """The sizes of the files that it reads."""
        return [self.widths[file] for file in self.inputs]

    def output_sizes(self):
        """The sizes of the files that it writes."""
        return [self.widths[file] for file in self.outputs]
