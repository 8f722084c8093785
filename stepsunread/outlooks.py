"""What is known behind acts at the end of a log."""

from stepsunread.goals import doubt_of
from stepsunread.halts import Halt
from stepsunread.layouts import Layout
from stepsunread.making import some_world
from stepsunread.probing import come, events_of, hands_of, outcome_text


def cases_to_act_on(study, number, questions):
    """Cases that part all worlds that fit, for acts at the end of this log, and for questions."""
    logs = [number]
    for question in questions:
        logs += study.logs_of(question)
    return study.grown((), tuple(sorted(set(logs)))).all_cases()


class Told:
    """What acts told: the same, whatever the sequence, brings the same worlds and the same end of the log.

    runs: the ends of runs, by (step, way). seen: what stood in files at the
    end of the log ahead of all acts. over: what was written into files since.
    """

    def __init__(self):
        self.runs = {}
        self.seen = {}
        self.over = {}
        # The probes in their sequence, where that counts.
        self.probes = ()

    def behind(self, work, act, outcome, is_ordered):
        """What is told behind one act more."""
        told = Told()
        told.runs = {place: self.runs[place] for place in self.runs}
        told.seen = dict(self.seen)
        told.over = dict(self.over)
        told.probes = self.probes + (act,) if is_ordered and act[0] == "probe" else self.probes
        if act[0] == "look":
            told.note_read(act[1], outcome)
            return told
        for file, content in zip(work.sources, hands_of(act)):
            told.over[file] = content
        way, end = outcome
        for file, content in way:
            told.note_read(file, content)
        told.runs[act[2], way] = end
        if end != "fail":
            for file, content in zip(work.writes(act[2]), end):
                told.over[file] = content
        return told

    def note_read(self, file, content):
        """It stood so in the file."""
        if file not in self.over:
            self.seen[file] = content

    def as_key(self):
        """What is told, to be looked up by."""
        runs = tuple(sorted(self.runs.items()))
        return runs, tuple(sorted(self.seen.items())), tuple(sorted(self.over.items())), self.probes


class Outlook:
    """What is known behind acts: cases that part all worlds that fit, by the book as it is there."""

    def __init__(self, search, layout, cases, told, key):
        self.search = search
        self.layout = layout
        self.cases = cases
        self.told = told
        self.key = key
        # By acts: (outcome, outlook) for each outcome, ascending by its text.
        self.rows = {}
        # Why the goal is not reached, as soon as it was asked.
        self.is_asked = False
        self.doubt = None
        # By numbers of acts: the least price of plans, or the greatest price for which there are none.
        self.least_prices = {}
        self.barred_prices = {}

    def is_reached(self):
        """Whether the goal is reached."""
        if not self.is_asked:
            self.doubt = doubt_of(self.cases, self.search.number, self.search.goal)
            self.is_asked = True
        return self.doubt is None

    def behind(self, act):
        """(outcome, outlook) for each outcome of the act, ascending by its text."""
        if act not in self.rows:
            self.rows[act] = self.rows_behind(act)
        return self.rows[act]

    def rows_behind(self, act):
        """What behind tells, worked out."""
        number = self.search.number
        groups = {}
        ahead = list(self.cases)
        while ahead:
            case = ahead.pop()
            try:
                outcome, stand = come(case, act, case.walk_of(number).stand)
            except Halt as halt:
                ahead += case.branches(halt.point)
                continue
            groups.setdefault(outcome, []).append((case, stand))
        return [(outcome, self.beyond(act, outcome, groups[outcome])) for outcome in sorted(groups, key=outcome_text)]

    def beyond(self, act, outcome, pairs):
        """The outlook behind the act and its outcome: pairs are cases with the stands at which the log ends then."""
        search = self.search
        told = self.told.behind(search.work, act, outcome, search.is_ordered)
        key = told.as_key()
        if key not in search.outlooks:
            outline = self.layout.outline.going_on(search.number, events_of(search.work, act, outcome))
            layout = Layout(outline, ())
            cases = [case.going_on(layout, search.number, stand) for case, stand in pairs]
            search.outlooks[key] = Outlook(search, layout, cases, told, key)
        return search.outlooks[key]


class Prospect:
    """A book, a log at whose end acts come, and a goal of theirs."""

    def __init__(self, study, number, goal):
        self.study = study
        self.work = study.work
        self.outline = study.outline
        self.number = number
        self.goal = goal
        # How many books behind acts are kept (see stepsunread/plans.py).
        self.many_kept = 0
        # What would stand at the end of this log hangs on the sequence of probes, in which they come anew.
        self.is_ordered = goal[0] != "all" and goal[1][0] == "had" and goal[1][1] == number
        # By what was told.
        self.outlooks = {}
        told = Told()
        cases = cases_to_act_on(study, number, goal[1:2])
        self.first = Outlook(self, Layout(study.outline, ()), cases, told, told.as_key())
        self.outlooks[told.as_key()] = self.first
        self.many_hands = len([1 for event in study.book[number] if event[0] == "set"])

    def world(self, case, wrote):
        """A world of the case, if acts wrote these contents."""
        crew, firsts, hands, weaves = some_world(case)
        row = hands[self.number][:self.many_hands] + wrote
        return crew, firsts, hands[:self.number] + (row,) + hands[self.number + 1:], weaves
