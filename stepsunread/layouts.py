"""How a book is gone through: which logs come together, what hands write, how pairs can be woven."""

from stepsunread.books import pairs_of
from stepsunread.counting import shape_of
from stepsunread.events import body_of, link_of
from stepsunread.forms import all_rows
from stepsunread.weavings import Weaver


class Outline:
    """How the logs of a book come together.

    groups: the tuples of logs that come together, alone or in pairs (the one
    that is beside the other behind it), each behind the one that it begins after.
    """

    def __init__(self, work, book):
        self.work = work
        self.book = book
        self.links = [link_of(log) for log in book]
        self.groups = []
        # By logs: the number of their group; what can come next of a pair, by its log that is beside the other.
        self.group_numbers = {}
        self.turns_open = {}
        partners = dict(pairs_of(book))
        for number, link in enumerate(self.links):
            if link is None or link[0] == "after":
                numbers = (number, partners[number]) if number in partners else (number,)
                for member in numbers:
                    self.group_numbers[member] = len(self.groups)
                self.groups.append(numbers)
        for number, beside in partners.items():
            self.turns_open[beside] = Weaver(body_of(book[beside]), body_of(book[number])).turns()
        # By marks of sets: what is written, a content or the point at which it is open; for each log the sizes.
        self.hands = {}
        self.set_sizes = [[] for log in book]
        for number, log in enumerate(book):
            for at, event in enumerate(log):
                if event[0] == "set":
                    self.hands[number, at] = ("hand", number, at) if event[2] is None else event[2]
                    self.set_sizes[number].append(work.widths[event[1]])
        # How many programs do what is known: asked again and again.
        self.known_counts = {}
        # Tuples of contents and weavings that are known to be those of worlds, as strings.
        self.contents = {}
        # By worlds, as strings: their passages through the book (stepsunread/witnesses.py).
        self.passages = {}
        # By events that come behind those of the book: the outlines of books that have them, too.
        self.twins = {}
        # See resting.
        self.rest_stands = None

    def resting(self):
        """(sizes, stands) for sweeps from all stands; a file that nobody reads is left at 0, as if of size 1."""
        if self.rest_stands is None:
            work = self.work
            read = [file for step in work.steps for file in work.reads(step)]
            # What nobody reads is settled by one run of the step that writes it: it stops no rest, and brings none.
            sizes = [work.widths[file] if file in read else 1 for file in work.files]
            self.rest_stands = sizes, all_rows(sizes)
        return self.rest_stands

    def going_on(self, number, events):
        """The outline of the book in which this log, which is alone, has these events more, all noted."""
        twin = Outline(self.work, ())
        twin.book = self.book[:number] + (self.book[number] + events,) + self.book[number + 1:]
        twin.links = self.links
        twin.groups = self.groups
        twin.group_numbers = self.group_numbers
        twin.turns_open = self.turns_open
        twin.known_counts = self.known_counts
        twin.hands = {mark: self.hands[mark] for mark in self.hands}
        twin.set_sizes = [list(sizes) for sizes in self.set_sizes]
        for at, event in enumerate(events, start=len(self.book[number])):
            if event[0] == "set":
                twin.hands[number, at] = event[2]
                twin.set_sizes[number].append(self.work.widths[event[1]])
        return twin


class Layout:
    """A book, but for left out marks, as it is worked out; idle are the marks of runs that are passed over."""

    def __init__(self, outline, left, idle=()):
        self.outline = outline
        self.work = outline.work
        self.book = outline.book
        self.groups = outline.groups
        self.group_numbers = outline.group_numbers
        self.turns_open = outline.turns_open
        self.left = {mark: True for mark in left}
        self.hands = outline.hands
        if left:
            self.hands = {mark: outline.hands[mark] for mark in outline.hands}
            for mark in left:
                if mark in outline.hands:
                    self.hands[mark] = ("hand",) + mark
        self.idle = {mark: True for mark in idle}
        # See all_contents.
        self.many_in_all = 0

    def many_contents(self, point):
        """How many contents can be chosen for the point: 1 if it is a weave."""
        word, number, told = point
        if word == "weave":
            return 1
        return self.work.widths[told if word == "first" else self.book[number][told][1]]

    def all_contents(self):
        """How many ways there are to choose all contents of all logs that are open."""
        if self.many_in_all == 0:
            points = [told for told in self.hands.values() if not isinstance(told, int)]
            for numbers in self.groups:
                if self.outline.links[numbers[0]] is None:
                    points += self.first_stand(numbers[0])
            self.many_in_all = 1
            for point in points:
                self.many_in_all = self.many_in_all * self.many_contents(point)
        return self.many_in_all

    def first_stand(self, number):
        """The stand at the beginning of the log, of which all is open."""
        return tuple([("first", number, file) for file in self.work.files])

    def many_woven(self, beside):
        """How many events of a pair are woven, told by its log that is beside the other."""
        log = self.book[beside]
        return len(body_of(log)) + len(body_of(self.book[log[0][1]]))

    def things(self, step, known, way):
        """What programs of the step that do what is known, which some do, do behind the way, to which they come."""
        return shape_of(self.work.parts[step]).things_at(known, way)

    def count(self, step, known):
        """How many programs of the step do what is known."""
        counts = self.outline.known_counts
        key = step, tuple(known.items())
        if key not in counts:
            counts[key] = shape_of(self.work.parts[step]).count(known)
        return counts[key]


def layout_of(work, book):
    """The layout of a book in which all is worked out."""
    return Layout(Outline(work, book), ())
