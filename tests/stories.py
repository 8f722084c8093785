"""True stories: books that tell all that came in a world, and what can be left out of them."""

from tests import reference


class Story:
    """A house in which things come by chance, all noted as they are."""

    def __init__(self, chance, work, crew, links, many):
        self.chance, self.work, self.crew = chance, work, crew
        self.links, self.many = links, many
        self.logs = [[] if link is None else [link] for link in links]
        self.firsts, self.hands = [()] * len(links), [[] for _ in links]
        self.weaves, self.lasts = [()] * len(links), {}
        for at, link in enumerate(links):
            if link is None or link[0] == "after":
                self.tell(at)

    def book(self):
        return tuple(tuple(log) for log in self.logs)

    def world(self):
        return self.crew, tuple(self.firsts), tuple(tuple(row) for row in self.hands), tuple(self.weaves)

    def tell(self, at):
        numbers = [at] + [k for k, link in enumerate(self.links) if link == ("beside", at)]
        if self.links[at] is None:
            self.firsts[at] = tuple(self.chance.randrange(size) for size in self.work.sizes)
            self.stand = dict(zip(self.work.files, self.firsts[at]))
        else:
            self.stand = dict(self.lasts[self.links[at][1]])
        # By steps: the log and what is left of the program.
        self.left, come = {}, []
        for _ in range(self.chance.randrange(self.many * len(numbers) + 1)):
            log = self.chance.choice(numbers)
            if len(self.logs[log]) < 20:
                self.logs[log].append(self.event(log))
                come.append(log)
        if len(numbers) == 2:
            self.weaves[numbers[1]] = tuple(int(log == numbers[1]) for log in come)
        for log in numbers:
            self.lasts[log] = dict(self.stand)

    def event(self, log):
        chance = self.chance
        own = [step for step in self.left if self.left[step][0] == log]
        idle = [step for step in self.work.steps if step not in self.left]
        if own and chance.random() < 0.6:
            return self.go_on(chance.choice(own))
        if idle and chance.random() < 0.6:
            step = chance.choice(idle)
            if chance.random() < 0.6:
                self.left[step] = (log, self.crew[self.work.steps.index(step)])
                return ("begin", step)
            way, end = reference.run_down(self.crew[self.work.steps.index(step)], self.stand)
            self.write(step, end)
            return ("run", step, way, end)
        file = chance.choice(self.work.files)
        if chance.random() < 0.5:
            return ("saw", file, self.stand[file])
        content = chance.randrange(self.work.sizes[self.work.files.index(file)])
        self.hands[log].append(content)
        self.stand[file] = content
        return ("set", file, content)

    def write(self, step, end):
        if end != "fail":
            self.stand.update(zip(self.work.writes(step), end))

    def go_on(self, step):
        log, place = self.left[step]
        if place[0] == "read" and self.chance.random() < 0.8:
            reads = []
            while place[0] == "read" and (not reads or self.chance.random() < 0.5):
                reads.append((place[1], self.stand[place[1]]))
                place = place[2][self.stand[place[1]]]
            self.left[step] = (log, place)
            return ("reads", step, tuple(reads))
        if place[0] != "read" and self.chance.random() < 0.7:
            del self.left[step]
            end = place[1] if place[0] == "end" else "fail"
            self.write(step, end)
            return ("end", step, end)
        del self.left[step]
        many = len(self.work.writes(step))
        if place[0] == "end" and many == 2 and self.chance.random() < 0.7:
            self.write(step, place[1][:1])
            return ("break", step, place[1][:1])
        return ("break", step, ())


def chance_links(chance):
    """How one to three logs may begin."""
    return chance.choice([
        [None], [None, None], [None, ("after", 0)], [None, ("beside", 0)], [None, None, None],
        [None, ("after", 0), ("beside", 1)], [None, ("beside", 0), ("after", 1)], [None, ("beside", 0), ("after", 0)],
        [None, ("after", 0), ("beside", 0)], [None, ("after", 0), ("after", 1)], [None, ("after", 0), ("after", 0)],
        [None, None, ("beside", 0)], [None, None, ("beside", 1)], [None, None, ("after", 0)]])


def blotted(chance, book, share):
    """The book with some of what is noted left out."""
    return tuple(tuple(blotted_event(chance, event, share) for event in log) for log in book)


def blotted_event(chance, event, share):
    def maybe(value):
        return None if chance.random() < share else value

    def row(values):
        return tuple(maybe(value) for value in values)

    word = event[0]
    if word in ("set", "saw"):
        return event[:2] + (maybe(event[2]),)
    if word == "reads":
        return event[:2] + (tuple(row(read) for read in event[2]),)
    if word == "break":
        return event[:2] + (row(event[2]),)
    if word in ("run", "end"):
        end = maybe(event[-1])
        end = row(end) if isinstance(end, tuple) else end
        if word == "end":
            return event[:2] + (end,)
        return event[:2] + (gapped(chance, [row(read) for read in event[2]], share), end)
    return event


def gapped(chance, reads, share):
    """The reads with gaps in the place of none, one or several of them."""
    parts = []
    for read in reads + ["last"]:
        if len(parts) < 2 and chance.random() < share:
            parts.append(None)
        if read != "last" and not (parts[-1:] == [None] and chance.random() < 0.5):
            parts.append(read)
    return tuple(parts[:4]) if len(parts) <= 4 else tuple(reads)
