"""Cases: what was chosen of a book, and what was worked out by that."""

from stepsunread.forms import is_below, is_way
from stepsunread.halts import Halt
from stepsunread.walks import Walk


def empty_case(layout):
    """The case in which nothing was chosen, not worked out."""
    return Case(layout, {}, {step: {} for step in layout.work.steps}, [None] * len(layout.groups), [])


def case_at(layout, path):
    """The case behind the choices of a path, which is () or (path, point, number of the thing), worked out so far."""
    choices = []
    while path:
        path, point, at = path
        choices.append((point, at))
    case = empty_case(layout)
    for point, at in reversed(choices):
        case.try_out(point, case.things(point)[at])
    case.go()
    return case


class Case:
    """Choices for a book, worked out as far as they lead.

    chosen: by points (of first, hand and weave) the numbers that were chosen.
    known: by steps what their programs were chosen to do behind ways.
    walks: for each group of the layout how far it was worked out, None if it
    has not begun. wrong: the marks of events that are wrong.
    """

    def __init__(self, layout, chosen, known, walks, wrong):
        self.layout = layout
        self.chosen = chosen
        self.known = known
        self.walks = walks
        self.wrong = wrong
        # Whether nothing is worked out any more as soon as one event is wrong, and what can be one thing
        # alone, but for what is wrong at once, is chosen as soon as it is needed.
        self.is_hasty = False
        # (point, things, marks that shut all but one of them) for each of these choices.
        self.decided = []
        # By points at which walks halt: (things, marks that shut them), as far as nothing was chosen since.
        self.asked = {}
        # The walk that goes on.
        self.walking = None
        # What was worked out of steps at stands by the choices so far (see stepsunread/sweeping.py): by
        # (step, stand), and these in their sequence.
        self.memory = {}
        self.remembered = []

    def copy(self):
        """A case in which as much was chosen, and that goes on by itself."""
        chosen = {point: self.chosen[point] for point in self.chosen}
        known = {}
        for step, told in self.known.items():
            known[step] = {way: told[way] for way in told}
        # A walk that is over does not change any more.
        walks = [walk if walk is None or walk.is_over else walk.copy() for walk in self.walks]
        twin = Case(self.layout, chosen, known, walks, list(self.wrong))
        twin.is_hasty = self.is_hasty
        return twin

    def choose(self, point, thing):
        """One choice more, worked out."""
        self.asked = {}
        if point[0] == "next":
            self.known[point[1]][point[2]] = thing
        else:
            self.chosen[point] = thing
        self.go()

    def try_out(self, point, thing):
        """One choice more, or in the place of another one, all logs being worked out."""
        if point[0] == "next":
            self.known[point[1]][point[2]] = thing
        else:
            self.chosen[point] = thing

    def take_back(self, point):
        """The choice that was tried out last is taken back."""
        if point[0] == "next":
            del self.known[point[1]][point[2]]
        else:
            del self.chosen[point]

    def remember(self, place, told):
        """What was worked out of (step, stand) by the choices so far."""
        self.memory[place] = told
        self.remembered.append(place)
        return told

    def forget(self, many):
        """What was remembered behind so many is no more."""
        while len(self.remembered) > many:
            self.memory.pop(self.remembered.pop(), None)

    def with_choice(self, point, thing):
        """Another case, with one choice more."""
        beyond = self.copy()
        beyond.choose(point, thing)
        return beyond

    def with_choices(self, told):
        """Another case, with choices more for points that are contents, all logs being worked out."""
        beyond = self.copy()
        for point in told:
            beyond.chosen[point] = told[point]
        return beyond

    def branches(self, point):
        """Other cases, one for each thing that the point can be."""
        return [self.with_choice(point, thing) for thing in self.things(point)]

    def going_on(self, layout, number, stand):
        """Another case, by a layout in which this log, which is alone and worked out, goes on to the stand."""
        walks = list(self.walks)
        walk = self.walk_of(number).copy()
        walk.stand = stand
        walks[layout.group_numbers[number]] = walk
        return Case(layout, self.chosen, self.known, walks, self.wrong)

    def content(self, told):
        """The content that is told, as an integer or by its point."""
        if isinstance(told, int):
            return told
        if told in self.chosen:
            return self.chosen[told]
        return self.decide(told)

    def thing(self, step, way):
        """What the program does behind the way."""
        known = self.known[step]
        return known[way] if way in known else self.decide(("next", step, way))

    def decide(self, point):
        """The only thing that the point, which is needed, can be; Halt if there are others, or nobody asked."""
        if not self.is_hasty:
            raise Halt(point)
        things = self.things(point)
        marks = self.walking.barring(self, point, things)
        if marks.count(None) != 1:
            self.asked[point] = things, marks
            raise Halt(point)
        self.asked = {}
        self.decided.append((point, things, marks))
        thing = things[marks.index(None)]
        self.try_out(point, thing)
        return thing

    def note_wrong(self, mark):
        """The event is wrong."""
        if mark not in self.wrong:
            self.wrong.append(mark)
        if self.is_hasty:
            raise Halt(None)

    def go(self):
        """Work all logs out as far as the choices lead."""
        is_going = True
        while is_going:
            is_going = False
            for at, numbers in enumerate(self.layout.groups):
                walk = self.walks[at]
                if walk is None:
                    walk = self.begin(numbers)
                    self.walks[at] = walk
                elif walk.is_over or not self.is_chosen(walk.halt):
                    continue
                if walk is not None:
                    self.walking = walk
                    walk.go(self)
                    if self.wrong and self.is_hasty:
                        return
                    # What was decided here may be what others halt at.
                    is_going = self.decided != []

    def begin(self, numbers):
        """The walk of these logs at their beginning, None as long as that is not worked out."""
        layout = self.layout
        link = layout.outline.links[numbers[0]]
        if link is None:
            stand, writers = layout.first_stand(numbers[0]), (None,) * len(layout.work.files)
        else:
            ahead = self.walk_of(link[1])
            if ahead is None or not ahead.is_over:
                return None
            stand, writers = ahead.stand, ahead.writers
        walk = Walk(layout, numbers, stand, writers)
        walk.begin()
        return walk

    def walk_of(self, number):
        """The walk of the log of this number."""
        return self.walks[self.layout.group_numbers[number]]

    def is_chosen(self, point):
        """Whether the point was chosen."""
        return point[2] in self.known[point[1]] if point[0] == "next" else point in self.chosen

    def halts(self):
        """The points at which the logs halt, each once."""
        points = []
        for walk in self.walks:
            if walk is not None and not walk.is_over and walk.halt not in points:
                points.append(walk.halt)
        return points

    def barring(self, point, things):
        """For each thing that the point can be: the mark of an event that is wrong then, None where none is seen."""
        marks = [None] * len(things)
        for walk in self.walks:
            if walk is not None and not walk.is_over and walk.halt == point:
                found = walk.barring(self, point, things)
                marks = [mark or other for mark, other in zip(marks, found)]
        return marks

    def is_worked_out(self):
        """Whether all logs have come to their end."""
        return all([walk is not None and walk.is_over for walk in self.walks])

    def things(self, point):
        """What a point that is one, and open, can be, ascending."""
        word = point[0]
        if word == "next":
            return self.layout.things(point[1], self.known[point[1]], point[2])
        if word == "weave":
            came = self.came_ahead(point[1], point[2])
            return self.layout.turns_open[point[1]][sum(came), len(came) - sum(came)]
        work = self.layout.work
        file = point[2] if word == "first" else self.layout.book[point[1]][point[2]][1]
        return tuple(range(work.widths[file]))

    def came_ahead(self, beside, many):
        """The first so many items of the weaving of this log; None if the choices do not tell them."""
        came = ()
        while len(came) < many:
            items = self.layout.turns_open[beside][sum(came), len(came) - sum(came)]
            point = ("weave", beside, len(came))
            if len(items) == 1:
                came += items
            elif point in self.chosen:
                came += (self.chosen[point],)
            else:
                return None
        return came

    def is_open(self, value):
        """Whether the value is a point that was not chosen, and to which the choices lead."""
        if not isinstance(value, tuple) or len(value) != 3 or not isinstance(value[0], str):
            return False
        word = value[0]
        if word == "next":
            return self.is_open_way(value[1], value[2])
        if word not in ("first", "hand", "weave") or not is_below(value[1], len(self.layout.book)):
            return False
        if word == "first":
            is_point = value[2] in self.layout.work.files and self.layout.outline.links[value[1]] is None
        elif word == "hand":
            # Sets of which it is noted what they wrote are no points.
            is_point = is_below(value[2], len(self.layout.book[value[1]])) and self.layout.hands.get(value[1:]) == value
        else:
            is_point = self.is_open_turn(value[1], value[2])
        return is_point and value not in self.chosen

    def is_open_way(self, step, way):
        """Whether the choices lead the program of the step to the way, but tell nothing of what it does there."""
        if step not in self.layout.work.steps or not is_way(self.layout.work.parts[step], way):
            return False
        known = self.known[step]
        for depth, read in enumerate(way):
            if known.get(way[:depth]) != ("read", read[0]):
                return False
        return way not in known

    def is_open_turn(self, beside, number):
        """Whether the choices tell all that comes ahead of this event of a pair."""
        if beside not in self.layout.turns_open:
            return False
        return is_below(number, self.layout.many_woven(beside)) and self.came_ahead(beside, number) is not None
