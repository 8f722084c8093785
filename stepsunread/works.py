"""Works: files, and steps that read and write them."""

from stepsunread.drafts import read_draft
from stepsunread.errors import NoFile, NoStep


class Work:
    """A work, by its text: BadWork."""

    def __init__(self, text):
        draft = read_draft(text)
        self.text = text
        # What is told of each step (see part_of), and the size of each file, by their names.
        self.parts = draft.parts
        self.widths = draft.widths
        self.files = tuple(draft.widths)
        self.sizes = tuple(draft.widths.values())
        self.steps = tuple(draft.parts)
        self.kinds = tuple([part.kind for part in draft.parts.values()])
        self.mosts = tuple([part.most for part in draft.parts.values()])
        self.sources = tuple([file for file in self.files if file not in draft.written])
        # The numbers of files, of steps, and of the files that a step writes.
        self.places = {file: at for at, file in enumerate(self.files)}
        self.step_numbers = {step: at for at, step in enumerate(self.steps)}
        self.outs = {part.name: tuple([self.places[file] for file in part.outputs]) for part in draft.parts.values()}
        # What was worked out of books (see study_of in stepsunread/studies.py).
        self.studies = {}
        # What was worked out of questions (see stepsunread/inquiries.py).
        self.recalled = {}
        # Tuples of programs that are known to be crews, as strings.
        self.crews = {}

    def __eq__(self, other):
        return isinstance(other, Work) and self.text == other.text

    def reads(self, step):
        """The files that the step reads: NoStep."""
        return part_of(self, step).inputs

    def writes(self, step):
        """The files that the step writes: NoStep."""
        return part_of(self, step).outputs

    def claims(self, step):
        """The texts of the claims of the step: NoStep."""
        return part_of(self, step).claimed

    def maker(self, file):
        """The step that writes the file, None of a source: NoFile."""
        if file not in self.files:
            raise NoFile(file)
        for part in self.parts.values():
            if file in part.outputs:
                return part.name
        return None


def part_of(work, step):
    """What the work tells of the step: NoStep."""
    if step not in work.steps:
        raise NoStep(step)
    return work.parts[step]
