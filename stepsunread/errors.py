"""The errors of the package: each keeps the value that it tells of."""


class StepError(ValueError):
    """What every error of the package is."""

    def __init__(self, value):
        self.value = value


class BadWork(StepError):
    """A text is no work; the value is the line."""


class NoStep(StepError):
    """A step that there is not."""


class NoFile(StepError):
    """A file that there is not."""


class BadFacts(StepError):
    """What is no tuple of facts."""


class BadWay(StepError):
    """What is no way."""


class BadCrew(StepError):
    """What is no crew."""


class BadStand(StepError):
    """What is no stand."""


class BadEnd(StepError):
    """What is no end of a run."""


class BadBook(StepError):
    """What is no book."""


class BadWorld(StepError):
    """What is no world of the book."""


class BadQuestion(StepError):
    """What is no question."""


class BadMarks(StepError):
    """What is no ascending tuple of marks."""


class BadQuestions(StepError):
    """What is no tuple of one to three questions."""


class NotSure(StepError):
    """A question has not just one answer; the value is its answers."""


class NoWorld(StepError):
    """No world fits the book."""


class BadPrices(StepError):
    """What are no prices."""


class BadSteps(StepError):
    """What is no tuple of different steps."""


class BadLog(StepError):
    """What is no number of a log that can be asked for here."""


class BadGoal(StepError):
    """What is no goal."""


class BadCount(StepError):
    """A number that cannot stand here."""


class BadTruth(StepError):
    """What is neither True nor False."""


class BadContent(StepError):
    """What is no content of the file."""


class UnderWay(StepError):
    """A run of the step is under way."""


class NotUnderWay(StepError):
    """No run of the step is under way."""


class BadMill(StepError):
    """What is no mill that a house can have."""


class Clash(StepError):
    """Notes contradict; the value is their marks."""


class TooMany(StepError):
    """There would be more logs than a book has."""


class NoMark(StepError):
    """What is no mark that can be blotted."""


class Full(StepError):
    """The own log would have too many events."""


class NothingToUndo(StepError):
    """There is no deed to take back."""


class NoTrial(StepError):
    """There is no trial to keep."""


class BadProgram(StepError):
    """What is no program of the step."""


class BadEvent(StepError):
    """What is no event."""


class BadText(StepError):
    """A text is not written so; the value is the line."""


class BadHouse(StepError):
    """What is no house that can be shown."""


class BadLine(StepError):
    """What is no line that a desk takes."""
