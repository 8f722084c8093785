"""How a book is gone through: which logs come together, what hands write, how pairs can be woven."""

from stepsunread.books import pairs_of
from stepsunread.counting import shape_of
from stepsunread.events import body_of, link_of
from stepsunread.weavings import Weaver


class Layout:
    """A book, but for left out marks, as it is worked out.

    groups: the tuples of logs that come together, alone or in pairs (the one
    that is beside the other behind it), each behind the one that it begins after.
    """

    def __init__(self, work, book, left):
        self.work = work
        self.book = book
        self.left = {mark: True for mark in left}
        partners = dict(pairs_of(book))
        self.groups = []
        # By logs: the number of their group; what can come next of a pair, by its log that is beside the other.
        self.group_numbers = {}
        self.turns_open = {}
        for number, log in enumerate(book):
            link = link_of(log)
            if link is None or link[0] == "after":
                numbers = (number, partners[number]) if number in partners else (number,)
                for member in numbers:
                    self.group_numbers[member] = len(self.groups)
                self.groups.append(numbers)
        for number, beside in partners.items():
            self.turns_open[beside] = Weaver(body_of(book[beside]), body_of(book[number])).turns()
        # By marks of sets: what is written, a content or the point at which it is open.
        self.hands = {}
        for number, log in enumerate(book):
            for at, event in enumerate(log):
                if event[0] == "set":
                    is_open = event[2] is None or (number, at) in self.left
                    self.hands[number, at] = ("hand", number, at) if is_open else event[2]
        # What programs can do next, and how many there are, by what is known of them: asked again and again.
        self.known_things = {}
        self.known_counts = {}

    def going_on(self, number, events):
        """The layout of the book in which this log, which is alone, has these events more, all noted."""
        twin = Layout(self.work, (), ())
        twin.book = self.book[:number] + (self.book[number] + events,) + self.book[number + 1:]
        twin.left = self.left
        twin.groups = self.groups
        twin.group_numbers = self.group_numbers
        twin.turns_open = self.turns_open
        twin.known_things = self.known_things
        twin.known_counts = self.known_counts
        twin.hands = {mark: self.hands[mark] for mark in self.hands}
        for at, event in enumerate(events, start=len(self.book[number])):
            if event[0] == "set":
                twin.hands[number, at] = event[2]
        return twin

    def first_logs(self):
        """The numbers of the logs at whose beginning nothing is known."""
        return [numbers[0] for numbers in self.groups if link_of(self.book[numbers[0]]) is None]

    def first_stand(self, number):
        """The stand at the beginning of the log, of which all is open."""
        return tuple([("first", number, file) for file in self.work.files])

    def many_woven(self, beside):
        """How many events of a pair are woven, told by its log that is beside the other."""
        log = self.book[beside]
        return len(body_of(log)) + len(body_of(self.book[log[0][1]]))

    def programs_of(self, step):
        """All programs of the step, as a whole."""
        return shape_of(self.work.parts[step])

    def things(self, step, known, way):
        """What programs of the step that do what is known do behind the way, to which they come."""
        key = step, way, tuple(known.items())
        if key not in self.known_things:
            self.known_things[key] = self.programs_of(step).things(known, way)
        return self.known_things[key]

    def count(self, step, known):
        """How many programs of the step do what is known."""
        key = step, tuple(known.items())
        if key not in self.known_counts:
            self.known_counts[key] = self.programs_of(step).count(known)
        return self.known_counts[key]
