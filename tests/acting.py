"""Section 13 followed literally: all acts, and all worlds that fit, one by one."""

import itertools

from tests import reference, slow


def acts_of(work, is_writing):
    sizes = slow.sizes(work)
    writings = list(itertools.product(*[range(sizes[file]) for file in work.sources])) if is_writing else [None]
    return [("look", file) for file in work.files] + [
        ("probe", row, step) for step in work.steps for row in writings]


def cost(work, prices, act):
    return prices[0] if act[0] == "look" else prices[1 + work.steps.index(act[2])]


def text(outcome):
    if isinstance(outcome, int):
        return str(outcome)
    way, end = outcome
    told = ",".join("%s:%d" % read for read in way) or "-"
    return told + " " + (end if end == "fail" else ",".join(map(str, end)))


def last(work, book, world, log):
    return reference.go_through(work, book, world)[0][log][-1]


def outcome_of(work, book, world, log, act):
    stand = slow.named(work, last(work, book, world, log))
    if act[0] == "look":
        return stand[act[1]]
    stand.update(zip(work.sources, act[1] or ()))
    return reference.run_down(world[0][work.steps.index(act[2])], stand)


def behind(work, book, world, log, act, outcome):
    """(book, world) behind the act."""
    crew, firsts, hands, weaves = world
    if act[0] == "look":
        events, wrote = (("saw", act[1], outcome),), ()
    else:
        wrote = act[1] or ()
        events = tuple(("set", file, content) for file, content in zip(work.sources, wrote))
        events += (("run", act[2]) + outcome,)
    book = book[:log] + (book[log] + events,) + book[log + 1:]
    return book, (crew, firsts, hands[:log] + (hands[log] + wrote,) + hands[log + 1:], weaves)


def closure(work, crew, stand):
    """All stands to which sets of sources and runs lead."""
    found, ahead = {stand}, [stand]
    sizes = slow.sizes(work)
    while ahead:
        now = slow.named(work, ahead.pop())
        rows = [dict(now, **{file: content}) for file in work.sources for content in range(sizes[file])]
        for step, program in zip(work.steps, crew):
            end = reference.run_down(program, now)[1]
            rows.append(dict(now) if end == "fail" else dict(now, **dict(zip(work.writes(step), end))))
        for row in rows:
            told = tuple(row[file] for file in work.files)
            if told not in found:
                found.add(told)
                ahead.append(told)
    return found


class Room:
    """What is known behind acts: a book, and all worlds of it that fit."""

    def __init__(self, work, book, log, worlds):
        self.work, self.book, self.log, self.worlds = work, book, log, worlds
        self.told, self.rows = {}, {}

    def answers(self, question):
        if question not in self.told:
            self.told[question] = {world: slow.answer(self.work, self.book, world, question) for world in self.worlds}
        return self.told[question]

    def is_reached(self, goal):
        if goal[0] == "all":
            stands = set()
            for world in self.worlds:
                stands |= closure(self.work, world[0], last(self.work, self.book, world, self.log))
            for stand in stands:
                for at in range(len(self.work.steps)):
                    runs = {reference.run_down(crew[at], slow.named(self.work, stand))
                            for crew in {world[0] for world in self.worlds}}
                    if len(runs) > 1:
                        return False
            return True
        answers = set(self.answers(goal[1]).values())
        if goal[0] == "know":
            return len(answers) == 1
        return len(answers) == 1 and is_like(list(answers)[0], goal[2])

    def behind(self, act):
        """(outcome, room) for each outcome, ascending by its text."""
        if act not in self.rows:
            groups = {}
            for world in self.worlds:
                outcome = outcome_of(self.work, self.book, world, self.log, act)
                book, beyond = behind(self.work, self.book, world, self.log, act, outcome)
                groups.setdefault(outcome, (book, []))[1].append(beyond)
            self.rows[act] = [(outcome, Room(self.work, groups[outcome][0], self.log, groups[outcome][1]))
                              for outcome in sorted(groups, key=text)]
        return self.rows[act]

    def least(self, goal, prices, many, is_writing):
        """The least price of plans, None if there is none."""
        if self.is_reached(goal):
            return 0
        found = []
        for act in acts_of(self.work, is_writing) if many else []:
            worst = 0
            for _, room in self.behind(act):
                price = room.least(goal, prices, many - 1, is_writing)
                if price is None:
                    break
                worst = max(worst, price)
            else:
                found.append(cost(self.work, prices, act) + worst)
        return min(found, default=None)

    def price(self, plan, goal, prices, many, is_writing):
        """The price of a plan; an error if it is none."""
        if plan == ("done",):
            assert self.is_reached(goal)
            return 0
        word, act, rows = plan
        assert word == "act" and many > 0 and act in acts_of(self.work, is_writing)
        beyond = self.behind(act)
        assert [outcome for outcome, _ in rows] == [row[0] for row in beyond]
        return cost(self.work, prices, act) + max(
            room.price(row[1], goal, prices, many - 1, is_writing) for row, (_, room) in zip(rows, beyond))

    def is_foil(self, value, goal, prices, many, price, is_writing):
        hint, rows = value
        if not self.is_hint(hint, goal):
            return False
        acts = [act for act in acts_of(self.work, is_writing) if many and cost(self.work, prices, act) <= price]
        if [row[0] for row in rows] != acts:
            return False
        for act, outcome, foil in rows:
            rooms = dict(self.behind(act))
            left = price - cost(self.work, prices, act)
            if outcome not in rooms or not rooms[outcome].is_foil(foil, goal, prices, many - 1, left, is_writing):
                return False
        return True

    def is_hint(self, hint, goal):
        if goal[0] == "have":
            return hint in self.worlds and not is_like(self.answers(goal[1])[hint], goal[2])
        if goal[0] == "know":
            one, other = hint
            told = self.answers(goal[1])
            return one in self.worlds and other in self.worlds and told[one] != told[other]
        one, other, stand, step = hint
        at = self.work.steps.index(step)
        told = slow.named(self.work, stand)
        return (one in self.worlds and other in self.worlds
                and stand in closure(self.work, one[0], last(self.work, self.book, one, self.log))
                and reference.run_down(one[0][at], told) != reference.run_down(other[0][at], told))


def is_like(one, other):
    """Whether values are the same, also by their kinds."""
    if isinstance(one, tuple) and isinstance(other, tuple):
        return len(one) == len(other) and all(map(is_like, one, other))
    return one.__class__ is other.__class__ and one == other


def apart(work, log, one, other, book):
    """Whether acts ever tell two worlds apart."""
    if last(work, book, one, log) != last(work, book, other, log):
        return True
    seen, ahead = set(), [last(work, book, one, log)]
    while ahead:
        stand = ahead.pop()
        if stand in seen:
            continue
        seen.add(stand)
        for _, row, step in acts_of(work, True)[len(work.files):]:
            now = dict(slow.named(work, stand), **dict(zip(work.sources, row)))
            at = work.steps.index(step)
            told = reference.run_down(one[0][at], now)
            if told != reference.run_down(other[0][at], now):
                return True
            if told[1] != "fail":
                now.update(zip(work.writes(step), told[1]))
            ahead.append(tuple(now[file] for file in work.files))
    return False


def nodes(plan, path=()):
    """(path, part) for a plan, or a foil, and all parts of it."""
    yield path, plan
    if isinstance(plan, tuple):
        for at, part in enumerate(plan):
            yield from nodes(part, path + (at,))


def put(value, path, new):
    """The value with another part at the end of the path."""
    if not path:
        return new
    at = path[0]
    return value[:at] + (put(value[at], path[1:], new),) + value[at + 1:]
