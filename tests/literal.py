"""Section 8 word for word: each leaf of a tree is worked out from its beginning, by nothing but the choices ahead."""

from stepsunread.programs import things
from tests import reference, slow


class Stop(Exception):
    """A halt, at the point that it tells (none if something else halts)."""


class Open:
    """A content that was not chosen, and the point that it is."""

    def __init__(self, point):
        self.point = point

    def __eq__(self, other):
        return isinstance(other, Open) and self.point == other.point


class Workout:
    """What choices (things by points) work out of a book."""

    def __init__(self, work, book, left, choices):
        self.work, self.book, self.left, self.choices = work, book, left, choices
        self.wrong, self.ends, self.rows, self.runs, self.needs = set(), {}, {}, {}, []
        for number, log in enumerate(book):
            if not (log and log[0][0] == "beside"):
                try:
                    self.follow(number, slow.partner_of(book, number))
                except Stop as stop:
                    self.needs += stop.args

    def is_whole(self):
        return len(self.ends) == len(self.book)

    def get(self, point):
        if point not in self.choices:
            raise Stop(point)
        return self.choices[point]

    def value(self, content):
        return self.get(content.point) if isinstance(content, Open) else content

    def thing(self, step, way):
        return self.get(("next", step, way))

    def follow(self, number, partner, changed=None, is_quiet=False):
        """Work out a log, and the one beside it; changed: contents of sets that are otherwise."""
        log = self.book[number]
        if log and log[0][0] == "after":
            if log[0][1] not in self.ends:
                raise Stop
            stand, writers = dict(self.ends[log[0][1]][0]), dict(self.ends[log[0][1]][1])
        else:
            stand = {file: Open(("first", number, file)) for file in self.work.files}
            writers = dict.fromkeys(self.work.files)
        members = [number] + ([partner] if partner is not None else [])
        at = {member: 0 if slow.starts_fresh(self.book[member]) else 1 for member in members}
        rows = {member: [(dict(stand), dict(writers))] * (at[member] + 1) for member in members}
        running = {}
        if not is_quiet:
            self.rows.update(rows)
        turns = [number] * (len(log) - at[number]) if partner is None else self.weave(number, partner)
        for member in turns:
            self.come(member, at[member], stand, writers, running, changed or {}, is_quiet)
            at[member] += 1
            rows[member].append((dict(stand), dict(writers)))
        if is_quiet:
            return stand
        for member in members:
            self.ends[member] = stand, writers

    def weave(self, number, partner):
        """The logs whose events come, one by one."""
        rows = reference.weavings(self.book[partner][1:], reference.plain(self.book[number]))
        at = 0
        while rows and at < len(rows[0]):
            if len({row[at] for row in rows}) > 1:
                item = self.get(("weave", partner, at))
                rows = [row for row in rows if row[at] == item]
            yield partner if rows[0][at] else number
            at += 1

    def come(self, member, at, stand, writers, running, changed, is_quiet):
        event, mark = self.book[member][at], (member, at)
        word, name = event[:2]
        is_asked = mark not in self.left and not is_quiet

        def wrong_if(is_so):
            if is_so and is_asked:
                self.wrong.add(mark)

        def write(files, contents):
            for file, content in zip(files, contents):
                stand[file], writers[file] = content, mark

        def read(file, part):
            wrong_if(part is None or part[0] not in (None, file))
            content = self.value(stand[file])
            wrong_if(part is not None and part[1] not in (None, content))
            return file, content

        if word == "set":
            is_open = event[2] is None or mark in self.left
            content = Open(("hand",) + mark) if is_open else event[2]
            write((name,), (changed.get(mark, content),))
        elif word == "saw":
            if event[2] is not None and is_asked:
                wrong_if(self.value(stand[name]) != event[2])
        elif word == "begin":
            running[name] = ()
        elif word == "reads":
            for part in event[2]:
                thing = self.thing(name, running[name])
                if thing[0] != "read":
                    wrong_if(True)
                    break
                running[name] += (read(thing[1], part),)
        elif word == "break" and event[2] == ():
            running.pop(name)
        else:
            way = () if word == "run" else running.pop(name)
            while self.thing(name, way)[0] == "read":
                part = None
                if word == "run":
                    ahead = event[2][:len(way) + 1]
                    part = (None, None) if None in ahead else ahead[len(way)] if len(ahead) > len(way) else None
                way += (read(self.thing(name, way)[1], part),)
            thing = self.thing(name, way)
            end = thing[1] if thing[0] == "end" else "fail"
            files = self.work.writes(name)
            if word == "run":
                self.runs.setdefault(mark, (way, end))
                wrong_if(not reference.told_way(event[2], way) or not reference.told_end(event[3], end))
            elif word == "end":
                wrong_if(not reference.told_end(event[2], end))
            else:
                files = files[:len(event[2])]
                wrong_if(end == "fail" or not reference.told_end(event[2], end[:len(event[2])]))
            if end != "fail":
                write(files, end)

    # Questions.

    def run(self, step, stand):
        way = ()
        while self.thing(step, way)[0] == "read":
            file = self.thing(step, way)[1]
            way += ((file, self.value(stand[file])),)
        thing = self.thing(step, way)
        return way, thing[1] if thing[0] == "end" else "fail"

    def places(self, step, fixed=None):
        """(things at chosen places, other places) of all ways down, or those by fixed contents."""
        found, missing, ahead = {}, [], [()]
        sizes = slow.sizes(self.work)
        while ahead:
            way = ahead.pop()
            thing = self.choices.get(("next", step, way))
            if thing is None:
                missing.append(("next", step, way))
                continue
            found[way] = thing
            if thing[0] == "read":
                contents = [fixed[thing[1]]] if fixed and thing[1] in fixed else range(sizes[thing[1]])
                ahead += [way + ((thing[1], content),) for content in contents]
        return found, missing

    def ask(self, question):
        """(answer,) if the question is known, otherwise None."""
        try:
            return (getattr(self, "ask_" + question[0])(*question[1:]),)
        except Stop as stop:
            self.needs += stop.args
            return None

    def last(self, log):
        return self.ends[log][0]

    def named(self, stand):
        return slow.named(self.work, stand)

    def ask_stood(self, log, moment, file):
        return self.value(self.rows[log][moment][0][file])

    def ask_ran(self, log, event):
        return self.runs[log, event]

    def ask_wrote(self, log, moment, file):
        return self.rows[log][moment][1][file]

    def ask_had(self, log, event, content, file):
        partner = slow.partner_of(self.book, log)
        first = log if partner is None or self.book[log][:1] != (("beside", partner),) else partner
        other = None if partner is None else log if first == partner else partner
        runs = dict(self.runs)
        stand = self.follow(first, other, {(log, event): content}, True)
        self.runs = runs
        return self.value(stand[file])

    def ask_does(self, step, way):
        for k in range(len(way)):
            if self.thing(step, way[:k]) != ("read", way[k][0]):
                return None
        return self.thing(step, way)

    def ask_uses(self, step, file):
        found, missing = self.places(step)
        if ("read", file) in found.values():
            return True
        if missing:
            raise Stop(missing[0])
        return False

    def ask_run(self, step, stand):
        return self.run(step, self.named(stand))

    def ask_same(self, step, other, stand):
        return self.run(step, self.named(stand))[1] == self.run(other, self.named(stand))[1]

    def ask_moves(self, step, stand, file, content):
        return self.run(step, self.named(stand))[1] != self.run(step, dict(self.named(stand), **{file: content}))[1]

    def ask_keeps(self, step, stand, files):
        found, missing = self.places(step, {file: self.named(stand)[file] for file in files})
        if len({thing for thing in found.values() if thing[0] != "read"}) > 1:
            return False
        if missing:
            raise Stop(missing[0])
        return True

    def ask_would(self, log, step):
        return self.run(step, self.last(log))[1]

    def ask_fresh(self, log, step):
        end = self.run(step, self.last(log))[1]
        if end == "fail":
            return True
        rows = [(self.last(log)[file], content) for file, content in zip(self.work.writes(step), end)]
        for found, content in rows:
            if (not isinstance(found, Open) or found.point in self.choices) and self.value(found) != content:
                return False
        for found, content in rows:
            self.value(found)
        return True

    def every(self, rows):
        """False if one of these calls tells False, True if all tell True."""
        stops = []
        for call in rows:
            try:
                if not call():
                    return False
            except Stop as stop:
                stops.append(stop)
        if stops:
            raise stops[0]
        return True

    def ask_still(self, log):
        return self.every([lambda step=step: self.ask_fresh(log, step) for step in self.work.steps])

    def sweep_out(self, stand):
        stand = {file: content if not isinstance(content, Open) else self.choices.get(content.point, content)
                 for file, content in stand.items()}
        seen, many, changing = [], 0, set()
        while True:
            seen.append(dict(stand))
            for step in self.work.steps:
                end = self.run(step, stand)[1]
                if end != "fail":
                    found = [self.value(stand[file]) for file in self.work.writes(step)]
                    if tuple(found) != end:
                        changing.add(step)
                    stand.update(zip(self.work.writes(step), end))
            if stand == seen[-1]:
                return many, stand, tuple(sorted(changing))
            many += 1
            if stand in seen:
                return None

    def ask_swept(self, log, file):
        found = self.sweep_out(self.last(log))
        return found and self.value(found[1][file])

    def ask_sweeps(self, log):
        found = self.sweep_out(self.last(log))
        return found and found[0]

    def ask_turns(self, log, changes):
        found = self.sweep_out(dict(self.last(log), **dict(changes)))
        return found and found[2]

    def ask_rests(self):
        rows = [self.named(row) for row in slow.stands_of(self.work)]
        return self.every([lambda row=row: self.sweep_out(row) is not None for row in rows])

    def beside(self, step, other, stand):
        """By all sequences of moves; the runs alone were worked out."""
        runs = {step: self.run(step, stand), other: self.run(other, stand)}

        def harms(reader, writer):
            if runs[writer][1] == "fail":
                return False
            wrote = dict(zip(self.work.writes(writer), runs[writer][1]))
            return any(wrote.get(file, content) != content for file, content in runs[reader][0])

        return not harms(step, other) and not harms(other, step)

    def ask_aside(self, log, step, other):
        return self.beside(step, other, self.last(log))

    def ask_apart(self, step, other):
        rows = [self.named(row) for row in slow.stands_of(self.work)]
        return self.every([lambda row=row: self.beside(step, other, row) for row in rows])


def is_like(one, other):
    """Whether values are the same, also by their kinds."""
    if isinstance(one, tuple) and isinstance(other, tuple):
        return len(one) == len(other) and all(map(is_like, one, other))
    return one.__class__ is other.__class__ and one == other


def what_can_be(work, book, left, choices, point):
    """What a point can be by the choices ahead; () if it is none, or was chosen."""
    if not isinstance(point, tuple) or len(point) != 3:
        return ()
    sizes = slow.sizes(work)
    found = ()
    for number, log in enumerate(book):
        if slow.starts_fresh(log):
            for file in work.files:
                if is_like(point, ("first", number, file)):
                    found = tuple(range(sizes[file]))
        for k, event in enumerate(log):
            if event[0] == "set" and (event[2] is None or (number, k) in left) and is_like(point, ("hand", number, k)):
                found = tuple(range(sizes[event[1]]))
        if log[:1] and log[0][0] == "beside":
            rows = reference.weavings(log[1:], reference.plain(book[log[0][1]]))
            for k in range(len(rows[0])):
                if is_like(point, ("weave", number, k)) and len({row[:k] for row in rows}) == 1:
                    found = tuple(sorted({row[k] for row in rows}))
                rows = [row for row in rows if choices.get(("weave", number, k), row[k]) == row[k]]
    if point[0] == "next" and point[1] in work.steps and isinstance(point[2], tuple):
        way = point[2]
        for k, read in enumerate(way):
            is_read = isinstance(read, tuple) and len(read) == 2 and read[0] in work.reads(point[1])
            if not is_read or read[1].__class__ is not int or not 0 <= read[1] < sizes[read[0]]:
                return ()
            if choices.get(("next", point[1], way[:k])) != ("read", read[0]):
                return ()
        facts = tuple((key[2], thing) for key, thing in choices.items() if key[:2] == ("next", point[1]))
        found = things(work, point[1], facts, way)
    return found if found and point not in choices else ()


def shows(work, book, question, value, left=(), choices=None):
    """Whether a value is a tree."""
    choices = choices or {}
    if not isinstance(value, tuple) or not value:
        return False
    if value[0] == "at" and len(value) == 3 and isinstance(value[2], tuple):
        rows = what_can_be(work, book, left, choices, value[1])
        if not rows or len(rows) != len(value[2]):
            return False
        return all(shows(work, book, question, branch, left, dict(choices, **{}) | {value[1]: thing})
                   for thing, branch in zip(rows, value[2]))
    workout = Workout(work, book, left, choices)
    if value[0] == "shut" and len(value) == 3:
        return any(is_like(value[1:], mark) for mark in workout.wrong)
    if value[0] != "gives" or len(value) != 2 or workout.wrong or not workout.is_whole():
        return False
    told = (None,) if question is None else workout.ask(question)
    return told is not None and is_like(value[1], told[0])


def points_of(work, book):
    """Many points, and some that are none."""
    rows = []
    for number, log in enumerate(book):
        rows += [("first", number, file) for file in work.files] + [("hand", number, k) for k in range(len(log))]
        rows += [("weave", number, k) for k in range(6)]
    for step in work.steps:
        rows += [("next", step, ())] + [("next", step, ((f, c),)) for f in work.reads(step) for c in (0, 1)]
    return rows


def chance_tree(chance, work, book, question, left, spare, choices=None):
    """A tree with up to so many points on each way down that need not be asked, in any sequence."""
    choices = choices or {}
    workout = Workout(work, book, left, choices)
    if workout.wrong and chance.random() < 0.8:
        return ("shut",) + chance.choice(sorted(workout.wrong))
    if workout.is_whole() and not workout.wrong:
        told = (None,) if question is None else workout.ask(question)
        if told is not None and (spare == 0 or chance.random() < 0.8):
            return ("gives", told[0])
    point = None
    if spare and chance.random() < 0.5:
        rows = [row for row in points_of(work, book) if what_can_be(work, book, left, choices, row)]
        point = chance.choice(rows) if rows else None
    if point is None and workout.wrong:
        return ("shut",) + chance.choice(sorted(workout.wrong))
    if point is None and not workout.needs:
        return ("gives", told[0])
    spare -= 1 if point is not None else 0
    point = chance.choice(workout.needs) if point is None else point
    things_there = what_can_be(work, book, left, choices, point)
    return ("at", point, tuple(
        chance_tree(chance, work, book, question, left, spare, choices | {point: thing}) for thing in things_there))


def nodes(tree, path=()):
    """(path, tree) for a tree and all in it."""
    yield path, tree
    if tree[0] == "at":
        for k, branch in enumerate(tree[2]):
            yield from nodes(branch, path + (k,))


def put(tree, path, new):
    """The tree with another one at the end of the path."""
    if not path:
        return new
    at = path[0]
    return ("at", tree[1], tree[2][:at] + (put(tree[2][at], path[1:], new),) + tree[2][at + 1:])


def altered(chance, work, book, tree):
    """The tree with something changed, which may or may not be a tree still."""
    rows = list(nodes(tree))
    path, at = chance.choice(rows)
    marks = slow.marks_of(book) or [(0, 0)]
    answers = [None, True, False, 0, 1, 2, "fail", (0,), (1,), (), chance.choice(marks), ("fail",)]
    shut = ("shut",) + chance.choice(marks)
    found = [chance.choice(rows)[1], shut, ("gives", chance.choice(answers)), list(at), at + (0,), at[:-1],
             (shut[0], bool(shut[1])) + shut[2:], None, ()]
    if at[0] == "at":
        branches = list(at[2])
        one, other = chance.randrange(len(branches)), chance.randrange(len(branches))
        lists = [branches[::-1], branches + [branches[one]], branches[:one] + branches[one + 1:],
                 branches[:one] + [branches[other]] + branches[one + 1:], []]
        found += [("at", at[1], tuple(row)) for row in lists] * 2 + [("at", at[1], branches)]
        found += [("at", chance.choice(points_of(work, book)), at[2]), branches[one], ("at", list(at[1]), at[2]),
                  ("at", at[1] + (0,), at[2]), ("at", at[1], (at,) * len(branches))]
    return put(tree, path, chance.choice(found))
