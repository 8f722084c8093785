"""Sections 8 to 12 followed literally: all worlds one by one, and all worked out anew each time."""

import itertools

from tests import reference

PROGRAMS = {}


def programs_of(work, step):
    key = work.text, step
    if key not in PROGRAMS:
        PROGRAMS[key] = reference.all_programs(work.text, step)
    return PROGRAMS[key]


def sizes(work):
    return dict(zip(work.files, work.sizes))


def partner_of(book, number):
    """The log that is beside this one, or the one that it is beside; None if it is alone."""
    if book[number][:1] and book[number][0][0] == "beside":
        return book[number][0][1]
    for other, log in enumerate(book):
        if log[:1] and log[0] == ("beside", number):
            return other
    return None


def starts_fresh(log):
    return not log or log[0][0] not in ("after", "beside")


def stands_of(work):
    return list(itertools.product(*[range(size) for size in work.sizes]))


def marks_of(book):
    return [(n, k) for n, log in enumerate(book) for k, event in enumerate(log)
            if event[0] not in ("after", "beside", "begin")]


def all_worlds(work, book, left=()):
    """All worlds in which sets write what is noted, but for those that are left out."""
    crews = list(itertools.product(*[programs_of(work, step) for step in work.steps]))
    firsts = list(itertools.product(*[stands_of(work) if starts_fresh(log) else [()] for log in book]))
    hands = []
    for number, log in enumerate(book):
        rows = []
        for k, event in enumerate(log):
            if event[0] == "set":
                is_open = event[2] is None or (number, k) in left
                rows.append(list(range(sizes(work)[event[1]])) if is_open else [event[2]])
        hands.append(list(itertools.product(*rows)))
    hands = list(itertools.product(*hands))
    weaves = []
    for number, log in enumerate(book):
        is_beside = log[:1] and log[0][0] == "beside"
        weaves.append(reference.weavings(log[1:], reference.plain(book[log[0][1]])) if is_beside else [()])
    weaves = list(itertools.product(*weaves))
    return list(itertools.product(crews, firsts, hands, weaves))


class Trace:
    """All that comes in a world."""

    def __init__(self, work, book, world):
        self.work, self.book, self.world = work, book, world
        self.stands, self.misfits = reference.go_through(work, book, world)
        self.rows, self.runs, self.lasts = {}, {}, {}
        for number, log in enumerate(book):
            if not (log and log[0][0] == "beside"):
                self.follow(number, partner_of(book, number))

    def follow(self, number, partner):
        """Who wrote what last, and the runs."""
        crew, firsts, hands, weaves = self.world
        log = self.book[number]
        if log and log[0][0] == "after":
            stand, writers = map(dict, self.lasts[log[0][1]])
        else:
            stand, writers = dict(zip(self.work.files, firsts[number])), dict.fromkeys(self.work.files)
        queues, rows = {}, {}
        for member in [number] + [partner] * (partner is not None):
            first = 0 if starts_fresh(self.book[member]) else 1
            queues[member] = list(range(first, len(self.book[member])))
            rows[member] = [dict(writers)] * (first + 1)
        turns = [number] * len(queues[number])
        if partner is not None:
            turns = [partner if item else number for item in weaves[partner]]
        left, sets = {}, {member: list(hands[member]) for member in queues}
        for member in turns:
            at = queues[member].pop(0)
            event = self.book[member][at]
            word, name = event[:2]
            wrote = []
            if word == "set":
                wrote = [name]
            elif word == "run":
                way, end = reference.run_down(crew[self.work.steps.index(name)], stand)
                self.runs[member, at] = way, end
                wrote = self.work.writes(name) if end != "fail" else []
            elif word == "end" or (word == "break" and event[2] != ()):
                end = reference.run_down(left[name], stand)[1]
                many = 9 if word == "end" else len(event[2])
                wrote = self.work.writes(name)[:many] if end != "fail" else []
            reference.happens(self.work, crew, stand, left, event, sets[member].pop(0) if word == "set" else None)
            writers = dict(writers)
            for file in wrote:
                writers[file] = (member, at)
            rows[member].append(writers)
        self.rows.update(rows)
        for member in queues:
            self.lasts[member] = stand, writers

    def last_stand(self, number):
        return dict(self.lasts[number][0])

    def run(self, step, stand):
        return reference.run_down(self.world[0][self.work.steps.index(step)], stand)


def named(work, stand):
    return dict(zip(work.files, stand))


def sweep_out(trace, stand):
    """(how many sweeps change something, the stand at rest, the steps that change something), or None."""
    stand, seen, changing, many = dict(stand), [], set(), 0
    while True:
        seen.append(dict(stand))
        for step in trace.work.steps:
            ahead = dict(stand)
            end = trace.run(step, stand)[1]
            if end != "fail":
                stand.update(zip(trace.work.writes(step), end))
            if stand != ahead:
                changing.add(step)
        if stand == seen[-1]:
            return many, stand, tuple(sorted(changing))
        many += 1
        if stand in seen:
            return None


def side_by_side(trace, steps, stand):
    """Whether, whatever sequence the moves of both runs come in, both have the same ways and ends."""
    found = set()

    def go(stand, places, told):
        if all(place is None for place in places):
            found.add(tuple(told))
        for k in (0, 1):
            place = places[k]
            if place is None:
                continue
            then, now, what = list(places), dict(stand), list(told)
            if place[0] == "read":
                what[k] += ((place[1], stand[place[1]]),)
                then[k] = place[2][stand[place[1]]]
            else:
                if place[0] == "end":
                    now.update(zip(trace.work.writes(steps[k]), place[1]))
                what[k] += (place,)
                then[k] = None
            go(now, then, what)

    crew = trace.world[0]
    go(dict(stand), [crew[trace.work.steps.index(step)] for step in steps], [(), ()])
    return len(found) == 1


def answer(work, book, world, question, trace=None):
    """The answer that a world gives to a question."""
    trace = trace or Trace(work, book, world)
    word, parts = question[0], question[1:]
    call = globals()["answer_" + word]
    return call(trace, *parts)


def answer_stood(trace, log, moment, file):
    return named(trace.work, trace.stands[log][moment])[file]


def answer_ran(trace, log, event):
    return trace.runs[log, event]


def answer_wrote(trace, log, moment, file):
    return trace.rows[log][moment][file]


def answer_had(trace, log, event, content, file):
    crew, firsts, hands, weaves = trace.world
    at = len([k for k in range(event) if trace.book[log][k][0] == "set"])
    row = hands[log][:at] + (content,) + hands[log][at + 1:]
    world = crew, firsts, hands[:log] + (row,) + hands[log + 1:], weaves
    # The log's beginning stays as it was: nothing ahead of it hangs on its own sets.
    return Trace(trace.work, trace.book, world).last_stand(log)[file]


def answer_does(trace, step, way):
    return reference.things_done(trace.world[0][trace.work.steps.index(step)]).get(way)


def answer_uses(trace, step, file):
    return ("read", file) in reference.things_done(trace.world[0][trace.work.steps.index(step)]).values()


def answer_run(trace, step, stand):
    return trace.run(step, named(trace.work, stand))


def answer_same(trace, step, other, stand):
    return answer_run(trace, step, stand)[1] == answer_run(trace, other, stand)[1]


def answer_moves(trace, step, stand, file, content):
    other = dict(named(trace.work, stand), **{file: content})
    return trace.run(step, named(trace.work, stand))[1] != trace.run(step, other)[1]


def answer_keeps(trace, step, stand, files):
    told = named(trace.work, stand)
    rows = [named(trace.work, row) for row in stands_of(trace.work)]
    rows = [row for row in rows if all(row[file] == told[file] for file in files)]
    return len({trace.run(step, row)[1] for row in rows}) == 1


def answer_would(trace, log, step):
    return trace.run(step, trace.last_stand(log))[1]


def answer_fresh(trace, log, step):
    stand = trace.last_stand(log)
    end = trace.run(step, stand)[1]
    return end == "fail" or all(stand[file] == content for file, content in zip(trace.work.writes(step), end))


def answer_still(trace, log):
    return all(answer_fresh(trace, log, step) for step in trace.work.steps)


def answer_swept(trace, log, file):
    found = sweep_out(trace, trace.last_stand(log))
    return found and found[1][file]


def answer_sweeps(trace, log):
    found = sweep_out(trace, trace.last_stand(log))
    return found and found[0]


def answer_turns(trace, log, changes):
    found = sweep_out(trace, dict(trace.last_stand(log), **dict(changes)))
    return found and found[2]


def answer_rests(trace):
    return all(sweep_out(trace, named(trace.work, row)) is not None for row in stands_of(trace.work))


def answer_aside(trace, log, step, other):
    return side_by_side(trace, (step, other), trace.last_stand(log))


def answer_apart(trace, step, other):
    return all(side_by_side(trace, (step, other), named(trace.work, row)) for row in stands_of(trace.work))


def text_of(question, answer):
    """The text of an answer."""
    def row(values):
        return ",".join(map(str, values)) or "-"

    def end(value):
        return "fail" if value == "fail" else row(value)

    if answer is None:
        return "*"
    if isinstance(answer, bool):
        return "yes" if answer else "no"
    if isinstance(answer, int):
        return str(answer)
    if question[0] in ("ran", "run"):
        return (",".join("%s:%d" % read for read in answer[0]) or "-") + " " + end(answer[1])
    if question[0] == "does":
        return "fail" if answer == ("fail",) else "read " + answer[1] if answer[0] == "read" else "end " + row(answer[1])
    if question[0] == "wrote":
        return "%d %d" % answer
    return end(answer) if question[0] == "would" else row(answer)


class Survey:
    """All worlds of a book, with what comes in them."""

    def __init__(self, work, book, left=()):
        self.work, self.book, self.left = work, book, left
        self.all = all_worlds(work, book, left)
        self.wrong = {world: set(reference.go_through(work, book, world)[1]) - set(left) for world in self.all}
        self.fitting = [world for world in self.all if not self.wrong[world]]
        self.traces = {}

    def answer(self, world, question):
        if world not in self.traces:
            self.traces[world] = Trace(self.work, self.book, world)
        return answer(self.work, self.book, world, question, self.traces[world])

    def shares(self, question):
        counts = {}
        for world in self.fitting:
            told = self.answer(world, question)
            counts[told] = counts.get(told, 0) + 1
        return tuple(sorted(counts.items(), key=lambda item: text_of(question, item[0])))

    def at_point(self, world, point):
        """What a world has at a point; None if its program does not come to the way."""
        crew, firsts, hands, weaves = world
        if point[0] == "first":
            return firsts[point[1]][self.work.files.index(point[2])]
        if point[0] == "hand":
            sets = [k for k, event in enumerate(self.book[point[1]]) if event[0] == "set"]
            return hands[point[1]][sets.index(point[2])]
        if point[0] == "next":
            return reference.things_done(crew[self.work.steps.index(point[1])]).get(point[2])
        return weaves[point[1]][point[2]]

    def parts(self, tree, question, worlds=None):
        """Whether a tree parts these worlds (all of them), each leaf telling what is so in all that come to it."""
        worlds = self.all if worlds is None else worlds
        if tree[0] == "shut":
            return all(tree[1:] in self.wrong[world] for world in worlds)
        if tree[0] == "gives":
            if any(self.wrong[world] for world in worlds):
                return False
            told = {None} if question is None else {self.answer(world, question) for world in worlds}
            return told == {tree[1]} and isinstance(list(told)[0], bool) == isinstance(tree[1], bool)
        groups = {}
        for world in worlds:
            groups.setdefault(self.at_point(world, tree[1]), []).append(world)
        if None in groups or len(groups) != len(tree[2]):
            return False
        return all(self.parts(branch, question, groups[thing]) for thing, branch in zip(sorted(groups), tree[2]))
