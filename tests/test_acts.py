"""Promise 13, acts: the cheapest ones, and why no cheaper ones do."""

import random
import unittest

from stepsunread.acts import cheapest
from stepsunread.errors import BadBook, BadCount, BadGoal, BadLog, BadPrices, BadTruth, NoWorld
from stepsunread.plans import shows_cheapest
from stepsunread.works import Work
from tests import acting, slow
from tests.chances import chance_book, chance_question, many_worlds
from tests.samples import ANY, MILL, NO_BOOKS, nested, told_of

WORK = Work(MILL)
BOOK = ((("set", "a", 0), ("set", "b", 1), ("run", "cut", (("a", 0),), (2,))),)
GOAL = ("know", ("does", "cut", (("a", 1),)))
PRICES = (1, 2, 2)
BAD = ((("set", "a", 0), ("saw", "a", 1)),)
# Tiny works: steps that read one file, a ring, sums, two files written, no sources, one that reads nothing at all.
TINY = (
    "file a 2\nfile c 2\nstep cut tree 1\n  reads a\n  writes c",
    "file a 2\nfile c 2\nstep cut tree 1\n  reads a\n  writes c\n  claim ends",
    "file x 2\nfile y 2\nstep p flat 1\n  reads x\n  writes y\n  claim ends\nstep q flat 1\n  reads y\n  writes x\n  claim ends",
    "file a 2\nfile b 2\nfile x 2\nstep add sums 2\n  reads a b\n  writes x",
    "file a 3\nfile x 3\nstep add sums 1\n  reads a\n  writes x",
    "file a 2\nfile c 2\nfile d 2\nstep two flat 1\n  reads a\n  writes c d\n  claim if a = 0 then c = 0\n  claim ends",
    "file a 2\nfile c 2\nstep cut tree 0\n  reads a\n  writes c",
    "file a 2\nfile c 2\nfile d 2\nstep cut sums 1\n  reads a\n  writes c\nstep mix sums 1\n  reads c\n  writes d",
)
ALTER = [None, True, False, 0, 1, 2, 26, 27, "done", "act", "look", "fail", (), (0,), ("done",), [], {}, ("none", ())]


def chance_room(chance, most_worlds=150):
    """(work, book, log, room) of a book that some world fits, and a log of it at whose end acts can come."""
    while True:
        work = Work(chance.choice(TINY))
        book = chance_book(chance, work, 3)
        logs = [at for at in range(len(book)) if can_act(book, at)]
        if logs and many_worlds(work, book) <= 2000:
            survey = slow.Survey(work, book)
            if 0 < len(survey.fitting) <= most_worlds:
                log = chance.choice(logs)
                return work, book, log, acting.Room(work, book, log, survey.fitting)


def can_act(book, at):
    running = []
    for event in book[at]:
        if event[0] == "begin":
            running.append(event[1])
        elif event[0] in ("end", "break"):
            running.remove(event[1])
    links = [log[0] for log in book if log and log[0][0] in ("after", "beside")]
    return not running and book[at][:1] not in [(("beside", k),) for k in range(3)] and (
        ("after", at) not in links and ("beside", at) not in links)


def chance_goal(chance, work, book, room):
    word = chance.choice(["know", "know", "have", "have", "all"])
    if word == "all":
        return ("all",)
    question = chance_question(chance, work, book)
    if word == "know":
        return word, question
    answers = list(room.answers(question).values())
    return word, question, chance.choice(answers + [chance.choice([None, True, 0, 1, "fail", (0,), ("fail",), [1], {}])])


class CheapestTest(unittest.TestCase):
    def test_example(self):
        self.assertEqual(cheapest(WORK, BOOK, 0, GOAL, PRICES, 1)[:2], ("plan", 2))
        self.assertEqual(cheapest(WORK, BOOK, 0, GOAL, PRICES, 0)[0], "none")

    def test_done_at_the_beginning(self):
        goal = ("know", ("run", "cut", (0, 0, 0)))
        for most in range(4):
            self.assertEqual(cheapest(WORK, BOOK, 0, goal, PRICES, most), ("plan", 0, ("done",), None))
        told = ("plan", 0, ("done",), None)
        self.assertIs(shows_cheapest(WORK, BOOK, 0, goal, PRICES, 2, told), True)
        for other in (("plan", False, ("done",), None), ("plan", 0, ("done",), ()), ("plan", 0, ["done"], None),
                      ("plan", 1, ("done",), None), ("plan", 0, ("done",)), ("plan", 0, ("done", ()), None)):
            self.assertIs(shows_cheapest(WORK, BOOK, 0, goal, PRICES, 2, other), False)
        have = ("have", ("run", "cut", (0, 0, 0)), ((("a", 0),), (2,)))
        self.assertEqual(cheapest(WORK, BOOK, 0, have, PRICES, 1), told)

    def test_answers_that_no_question_has(self):
        for answer in (7, "no", [], None, nested(dict, 30), True):
            told = cheapest(WORK, BOOK, 0, ("have", ("stood", 0, 1, "a"), answer), PRICES, 1)
            self.assertEqual(told[0], "none")
            self.assertIs(shows_cheapest(WORK, BOOK, 0, ("have", ("stood", 0, 1, "a"), answer), PRICES, 1, told), True)
        # True is not 1: a look would not do, either.
        book = ((("set", "a", 1),),)
        self.assertEqual(cheapest(WORK, book, 0, ("have", ("stood", 0, 1, "a"), True), PRICES, 2)[0], "none")
        self.assertEqual(cheapest(WORK, book, 0, ("have", ("stood", 0, 1, "a"), 1), PRICES, 2)[1], 0)

    def test_without_sources(self):
        work = Work(TINY[2])
        self.assertEqual(work.sources, ())
        told = cheapest(work, ((),), 0, ("all",), (1, 9, 9), 3)
        probes = {act for _, part in acting.nodes(told[-1]) for act in [part]
                  if isinstance(part, tuple) and part[:1] == ("probe",)}
        self.assertEqual(probes, {("probe", (), "p"), ("probe", (), "q")})
        told = cheapest(work, ((),), 0, ("all",), (1, 9, 9), 1, is_writing=False)
        self.assertIn(("probe", None, "p"), [row[0] for row in told[1][1]])

    def test_long_logs(self):
        events = (("set", "a", 0), ("set", "b", 0)) * 10
        goal = ("have", ("stood", 0, 20, "c"), 0)
        self.assertEqual(cheapest(WORK, (events,), 0, goal, PRICES, 2)[0], "none")
        goal = ("know", ("would", 0, "cut"))
        told = cheapest(WORK, (events,), 0, goal, PRICES, 1)
        self.assertEqual(told[:2], ("plan", 2))
        self.assertIs(shows_cheapest(WORK, (events,), 0, goal, PRICES, 1, told), True)

    def test_against_all_acts_and_all_worlds(self):
        chance = random.Random(70)
        seen = {}
        for _ in range(450):
            work, book, log, room = chance_room(chance, chance.choice([10, 40, 120]))
            many = len(acting.acts_of(work, True))
            goal = chance_goal(chance, work, book, room)
            most = chance.choice([0, 1, 1, 2, 2, 3] if len(room.worlds) * many < 200 else [0, 1, 1, 2])
            prices = tuple(chance.choice([1, 1, 2, 3, 9]) for _ in range(1 + len(work.steps)))
            is_writing = chance.random() < 0.7
            with self.subTest(text=work.text, book=book, log=log, goal=goal, prices=prices, most=most, is_writing=is_writing):
                told = cheapest(work, book, log, goal, prices, most, is_writing=is_writing)
                least = room.least(goal, prices, most, is_writing)
                place = told[0] + str(told[1] > 0 if told[0] == "plan" else most > 0)
                seen[goal[0], place] = seen.get((goal[0], place), 0) + 1
                if least is None:
                    self.assertEqual((told[0], len(told)), ("none", 2))
                    self.assertTrue(room.is_foil(told[1], goal, prices, most, 27, is_writing))
                else:
                    self.assertEqual((told[:2], len(told)), (("plan", least), 4))
                    self.assertEqual(room.price(told[2], goal, prices, most, is_writing), least)
                    if least == 0:
                        self.assertEqual(told[2:], (("done",), None))
                    else:
                        self.assertTrue(room.is_foil(told[3], goal, prices, most, least - 1, is_writing))
                self.compare(chance, (work, book, log, goal, prices, most), told, room, is_writing)
        self.assertGreaterEqual(min(seen.get((word, place), 0) for word in ("know", "have", "all")
                                    for place in ("noneTrue", "noneFalse", "planTrue", "planFalse")), 4, seen)

    def compare(self, chance, values, told, room, is_writing):
        """What is told is taken; what is changed is taken just where it is still so."""
        self.assertIs(shows_cheapest(*values, told, is_writing=is_writing), True)
        rows = list(acting.nodes(told))
        for _ in range(12):
            path, part = chance.choice(rows)
            new = chance.choice([chance.choice(ALTER), chance.choice(rows)[1], chance.choice(rows)[1]])
            if isinstance(part, tuple) and part and chance.random() < 0.5:
                at = chance.randrange(len(part))
                new = chance.choice([part[:at] + part[at + 1:], part + (part[at],), part[::-1], list(part)])
            other = acting.put(told, path, new)
            self.assertIs(shows_cheapest(*values, other, is_writing=is_writing),
                          self.is_so(room, values, other, is_writing), other)

    def is_so(self, room, values, value, is_writing):
        _, _, _, goal, prices, most = values
        least = room.least(goal, prices, most, is_writing)
        try:
            if least is None:
                word, foil = value
                return word == "none" and is_plain(value) and room.is_foil(foil, goal, prices, most, 27, is_writing)
            word, price, plan, foil = value
            if word != "plan" or price.__class__ is not int or price != least or not is_plain(value):
                return False
            if room.price(plan, goal, prices, most, is_writing) != least:
                return False
            return foil is None if least == 0 else room.is_foil(foil, goal, prices, most, least - 1, is_writing)
        except (ValueError, TypeError, AssertionError, KeyError, IndexError):
            return False

    def test_worlds_of_all_kinds(self):
        for value in ANY + [("plan",), ("plan", 2, ("done",), None), ("none", None), ("none", ()), ("none", ((), ()))]:
            self.assertIs(shows_cheapest(WORK, BOOK, 0, GOAL, PRICES, 1, value), False)
        told = cheapest(WORK, BOOK, 0, GOAL, PRICES, 1)
        for path, part in list(acting.nodes(told)):
            for value in (None, True, [], nested(tuple, 40), nested(dict, 40), "x", -1):
                if not acting.is_like(part, value):
                    self.assertIs(shows_cheapest(WORK, BOOK, 0, GOAL, PRICES, 1, acting.put(told, path, value)), False)

    def test_other_plans_and_foils(self):
        # A branch may cost more than it has to, up to the price of the whole.
        work = Work(TINY[0])
        book = ((("set", "a", 0),),)
        goal = ("know", ("does", "cut", ()))
        told = cheapest(work, book, 0, goal, (1, 1), 3)
        self.assertEqual(told[:2], ("plan", 1))
        price, plan = told[1:3]
        wider = ("act", plan[1], plan[2][:-1] + ((plan[2][-1][0], ("act", ("look", "a"), ((0, ("done",)),))),))
        self.assertIs(shows_cheapest(work, book, 0, goal, (1, 1), 3, ("plan", 2, wider, told[3])), False)
        self.assertIs(shows_cheapest(work, book, 0, goal, (1, 1), 3, ("plan", 1, wider, told[3])), False)

    def test_all_does_not_hang_on_what_is_written(self):
        work = Work(TINY[1])
        book = ((("set", "a", 0),),)
        self.assertEqual(cheapest(work, book, 0, ("all",), (1, 1), 2)[:2], ("plan", 2))
        self.assertEqual(cheapest(work, book, 0, ("all",), (1, 1), 2, is_writing=False)[0], "none")


def is_plain(value):
    """Whether there is nothing but tuples, integers, strings and None in a value."""
    if isinstance(value, tuple):
        return all(map(is_plain, value))
    return value is None or value.__class__ in (int, str)


class WrongTest(unittest.TestCase):
    def calls(self):
        yield lambda *told, **named: cheapest(*told, **named)
        yield lambda *told, **named: shows_cheapest(*told, None, **named)

    def test_errors(self):
        for call in self.calls():
            for value in NO_BOOKS:
                self.assertIs(told_of(self, BadBook, call, WORK, value, 0, GOAL, PRICES, 1), value)
            for value in ANY:
                if value.__class__ is not int or value != 0:
                    self.assertIs(told_of(self, BadLog, call, WORK, BOOK, value, GOAL, PRICES, 1), value)
                self.assertIs(told_of(self, BadGoal, call, WORK, BOOK, 0, value, PRICES, 1), value)
                self.assertIs(told_of(self, BadPrices, call, WORK, BOOK, 0, GOAL, value, 1), value)
                if value.__class__ is not int or not 0 <= value <= 3:
                    self.assertIs(told_of(self, BadCount, call, WORK, BOOK, 0, GOAL, PRICES, value), value)
                if not isinstance(value, bool):
                    self.assertIs(
                        told_of(self, BadTruth, call, WORK, BOOK, 0, GOAL, PRICES, 1, is_writing=value), value)

    def test_logs(self):
        for book, log in [(((), (("beside", 0),)), 0), (((), (("beside", 0),)), 1), (((), (("after", 0),)), 0),
                          (((("begin", "cut"),),), 0), (((("begin", "cut"), ("reads", "cut", ())),), 0),
                          (((),), 1), (((),), -1), (((),), False), ((((("begin", "cut")),), ()), 0)]:
            for call in self.calls():
                self.assertIs(told_of(self, BadLog, call, WORK, book, log, GOAL, PRICES, 1), log)
        # Another log may be a pair, begin after, or have a run under way.
        for book, log in [(((), (("beside", 0),), ()), 2), (((), (("after", 0),)), 1), (((("begin", "cut"),), ()), 1),
                          (((("begin", "cut"), ("break", "cut", ())),), 0), (((), (("after", 0),), (("after", 1),)), 2)]:
            self.assertEqual(cheapest(WORK, book, log, GOAL, PRICES, 0)[0], "none")

    def test_goals(self):
        question = GOAL[1]
        for goal in [("know",), ("know", question, None), ("have", question), ("have", question, 1, 1), ("all", question),
                     ["all"], ["know", question], ("know", list(question)), ("know", ("does", "cut")), ("all", ()),
                     ("know", ("stood", 1, 0, "a")), ("have", ("stood", 0, 4, "a"), 1), ("none",), ("know", None),
                     ("knows", question), (["know"], question), (True,), ("know", ("ran", 0, 0))]:
            for call in self.calls():
                self.assertIs(told_of(self, BadGoal, call, WORK, BOOK, 0, goal, PRICES, 1), goal)

    def test_prices_and_counts(self):
        for prices in [(1, 1), (1, 1, 1, 1), (0, 1, 1), (1, 10, 1), (1, True, 1), [1, 1, 1], (1, 1, None), (-1, 1, 1)]:
            for call in self.calls():
                self.assertIs(told_of(self, BadPrices, call, WORK, BOOK, 0, GOAL, prices, 1), prices)
        for call in self.calls():
            for most in (-1, 4, True, None, 10 ** 30):
                self.assertIs(told_of(self, BadCount, call, WORK, BOOK, 0, GOAL, PRICES, most), most)
            for value in (1, 0, None, "yes"):
                self.assertIs(told_of(self, BadTruth, call, WORK, BOOK, 0, GOAL, PRICES, 1, is_writing=value), value)

    def test_first_error_alone(self):
        wrong = [("book", (), BadBook), ("log", 1, BadLog), ("goal", (), BadGoal), ("prices", (), BadPrices),
                 ("most", -1, BadCount), ("is_writing", 1, BadTruth)]
        fine = {"work": WORK, "book": BAD, "log": 0, "goal": GOAL, "prices": PRICES, "most": 1, "is_writing": True}
        for call in (cheapest, lambda **named: shows_cheapest(value=None, **named)):
            for first, (name, value, error) in enumerate(wrong):
                named = dict(fine, **{other: worth for other, worth, _ in wrong[first:]})
                self.assertIs(told_of(self, error, call, **named), value)
            self.assertIsNone(told_of(self, NoWorld, call, **fine))

    def test_equal_calls(self):
        for goal in (GOAL, ("all",), ("have", GOAL[1], ("fail",))):
            told = cheapest(Work(MILL), BOOK, 0, goal, PRICES, 2)
            self.assertEqual(cheapest(work=WORK, book=BOOK, log=0, goal=goal, prices=PRICES, most=2, is_writing=True), told)
            self.assertIs(shows_cheapest(work=WORK, book=BOOK, log=0, goal=goal, prices=PRICES, most=2, value=told), True)


if __name__ == "__main__":
    unittest.main()
