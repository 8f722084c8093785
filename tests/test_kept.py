"""What is kept of works and books changes nothing that is told."""

import random
import unittest

from stepsunread.acts import cheapest
from stepsunread.asking import ask, is_sure, shows_answers, sure_facts
from stepsunread.books import is_book
from stepsunread.clashes import clash, grounds, shows_clash, shows_grounds
from stepsunread.counts import shares, worlds
from stepsunread.errors import BadBook, BadCrew, BadWorld, StepError
from stepsunread.hiding import hidden, shows_hidden
from stepsunread.keys import key, shows_key
from stepsunread.leaning import amends, lean, shows_amends, shows_lean
from stepsunread.plans import shows_cheapest
from stepsunread.rounds import rounds, shows_rounds
from stepsunread.runs import run
from stepsunread.since import shows_since, since
from stepsunread.trees import shows_tree, tree
from stepsunread.works import Work
from stepsunread.worlds import fits, is_world, misfits
from tests import acting, literal, look_in_full, slow
from tests.chances import SMALL, chance_book, chance_marks, chance_question, many_worlds
from tests.samples import MILL, told_of

BOOK = ((("set", "a", 0), ("set", "b", None), ("run", "cut", (("a", 0),), (2,)), ("saw", "c", None)),)
BAD = BOOK[:1] + ((("set", "a", 0), ("run", "cut", (), (2,))),)
QUESTION = ("run", "cut", (0, 0, 0))
GOAL = ("know", ("does", "cut", (("a", 1),)))


def bools(value):
    """The value with True and False in the place of 1 and 0, wherever they stand."""
    if isinstance(value, tuple):
        return tuple(map(bools, value))
    return bool(value) if value.__class__ is int and value in (0, 1) else value


def lists(value):
    """The value with lists in the place of the innermost tuples."""
    if isinstance(value, tuple):
        return tuple(map(lists, value)) if any(isinstance(part, tuple) for part in value) else list(value)
    return value


class KeptTest(unittest.TestCase):
    def setUp(self):
        look_in_full(False)

    def tearDown(self):
        look_in_full()

    def test_just_what_was_told_is_taken(self):
        work = Work(MILL)
        for call, shows, values in [
                (tree, shows_tree, (BOOK, QUESTION)), (ask, shows_answers, (BOOK, QUESTION)), (clash, shows_clash, (BAD,)),
                (grounds, shows_grounds, (BOOK, QUESTION)), (amends, shows_amends, (BAD,)), (lean, shows_lean, (BOOK, (QUESTION,))),
                (since, shows_since, (BOOK, 0, QUESTION)), (key, shows_key, (BOOK, "cut", (0, 0, 0), (1, 2))),
                (rounds, shows_rounds, (BOOK, ("cut", "mix"))), (hidden, shows_hidden, (BOOK, 0, ("stood", 0, 0, "a"))),
                (cheapest, shows_cheapest, (BOOK, 0, GOAL, (1, 2, 2), 2))]:
            with self.subTest(call=call.__name__):
                told = call(work, *values)
                self.assertIs(shows(work, *values, told), True)
                self.assertIs(shows(Work(MILL), *values, told), True)
                for other in (bools(told), lists(told), told[:-1], told + (0,), list(told)):
                    self.assertIs(shows(work, *values, other), False)
                    self.assertIs(shows(Work(MILL), *values, other), False)
                self.assertIs(shows(work, *values, told), True)

    def test_changed_trees_are_looked_at_as_in_full(self):
        chance = random.Random(63)
        seen = {True: 0, False: 0}
        for _ in range(150):
            text = chance.choice(SMALL)
            work = Work(text)
            book = chance_book(chance, work, 4)
            left, question = chance_marks(chance, book), chance.choice([None, chance_question(chance, work, book)])
            told = [tree(work, book, question, left=left)]
            if len(list(literal.nodes(told[0]))) < 300:
                told.append(literal.chance_tree(chance, work, book, question, left, chance.choice([0, 1])))
            for value in told + [literal.altered(chance, work, book, chance.choice(told)) for _ in range(12)]:
                look_in_full()
                expected = shows_tree(Work(text), book, question, value, left=left)
                look_in_full(False)
                for _ in range(2):
                    self.assertIs(shows_tree(work, book, question, value, left=left), expected)
                seen[expected] += 1
        self.assertGreater(min(seen.values()), 300, seen)

    def test_changed_evidence_is_looked_at_as_in_full(self):
        chance = random.Random(64)
        for _ in range(60):
            text = chance.choice(SMALL)
            work = Work(text)
            book = chance_book(chance, work, 3)
            question = chance_question(chance, work, book)
            step, stand = work.steps[0], tuple([0] * len(work.files))
            prices = (1,) * len(work.reads(step))
            for call, shows, values in [
                    (ask, shows_answers, (book, question)), (clash, shows_clash, (book,)), (grounds, shows_grounds, (book, question)),
                    (lean, shows_lean, (book, (question,))), (since, shows_since, (book, 0, question)),
                    (key, shows_key, (book, step, stand, prices)), (rounds, shows_rounds, (book, work.steps))]:
                try:
                    told = call(work, *values)
                except StepError:
                    continue
                rows = list(acting.nodes(told))
                for _ in range(8):
                    value = acting.put(told, chance.choice(rows)[0], chance.choice(rows)[1])
                    look_in_full()
                    expected = shows(Work(text), *values, value)
                    look_in_full(False)
                    self.assertIs(shows(work, *values, value), expected)

    def test_equal_values_of_other_kinds_are_not_taken_for_what_was_looked_at(self):
        work = Work(MILL)
        world = fine = ask(work, BOOK, QUESTION)[0][0][1]
        self.assertIs(fits(work, BOOK, world), True)
        for book in (bools(BOOK), lists(BOOK), BOOK[:1] + (BOOK[0],) * 3):
            self.assertEqual(book == BOOK, book is not BOOK and repr(book).replace("False", "0") == repr(BOOK))
            self.assertIs(is_book(work, book), False)
            for call in (worlds, lambda work, book: is_world(work, book, world), clash):
                self.assertIs(told_of(self, BadBook, call, work, book), book)
        for other in (bools(world), lists(world), world[:3] + (((), ()),), world[:1] + bools(world[1:])):
            self.assertIs(is_world(work, BOOK, other), False)
            self.assertIs(told_of(self, BadWorld, misfits, work, BOOK, other), other)
        for crew in (bools(fine[0]), list(fine[0])):
            self.assertIs(told_of(self, BadCrew, run, work, crew, "cut", (0, 0, 0)), crew)

    def test_many_books_one_behind_the_other(self):
        """More than are kept, and asked again: all tells the same."""
        chance = random.Random(60)
        work = Work(SMALL[1])
        rows = []
        while len(rows) < 40:
            book = chance_book(chance, work, 3)
            if many_worlds(work, book) < 3000:
                rows.append((book, chance_question(chance, work, book), chance_marks(chance, book)))
        told = [self.all_told(Work(SMALL[1]), *row) for row in rows]
        for _ in range(2):
            for at in chance.sample(range(40), 40):
                self.assertEqual(self.all_told(work, *rows[at]), told[at])

    def all_told(self, work, book, question, left):
        facts = None if worlds(work, book) == 0 else sure_facts(work, book, work.steps[0])
        return (worlds(work, book, left=left), ask(work, book, question), is_sure(work, book, question), facts,
                tree(work, book, question, left=left), shares(work, book, question), clash(work, book))

    def test_asked_in_any_sequence(self):
        """What was asked ahead changes nothing that is told: few answers, then all; counts, then trees."""
        chance = random.Random(61)
        for _ in range(120):
            text = chance.choice(SMALL)
            work = Work(text)
            book = chance_book(chance, work, 3)
            question = chance_question(chance, work, book)
            calls = [lambda w: worlds(w, book), lambda w: is_sure(w, book, question), lambda w: shares(w, book, question),
                     lambda w: ask(w, book, question), lambda w: tree(w, book, question), lambda w: clash(w, book),
                     lambda w: tree(w, book, None)]
            for call in chance.sample(calls, len(calls)):
                self.assertEqual(call(work), call(Work(text)))


class IdleRunsTest(unittest.TestCase):
    """Runs on which nothing hangs are passed over where worlds are counted and answers found."""

    def test_against_all_worlds(self):
        chance = random.Random(62)
        many = 0
        for _ in range(250):
            work = Work(chance.choice(SMALL))
            book = tuple(tuple(self.muted(chance, event) for event in log) for log in chance_book(chance, work, 4))
            if many_worlds(work, book) > 1500:
                continue
            left = chance_marks(chance, book)
            question = chance_question(chance, work, book)
            with self.subTest(text=work.text, book=book, left=left, question=question):
                survey = slow.Survey(work, book)
                self.assertEqual(worlds(work, book), len(survey.fitting))
                self.assertEqual(shares(work, book, question), survey.shares(question))
                self.assertEqual(is_sure(work, book, question), len(survey.shares(question)) == 1)
                self.assertEqual(worlds(work, book, left=left), len(slow.Survey(work, book, left).fitting))
                many += len(survey.fitting) > 0
        self.assertGreater(many, 80)

    def muted(self, chance, event):
        """A run of which nothing is noted, often."""
        if event[0] == "run" and chance.random() < 0.6:
            return event[:2] + ((None,) * chance.randint(1, 2), None)
        return event


class OutlookTest(unittest.TestCase):
    def test_plans_behind_passed_over_runs(self):
        """A run in another log, or ahead of what is noted, is passed over; what acts tell is the same."""
        work = Work("file a 2\nfile c 2\nstep cut tree 1\n  reads a\n  writes c")
        for book, log in [(((("run", "cut", (None,), None),), ()), 1), (((("run", "cut", (None,), None), ("set", "c", 0)),), 0),
                          (((("run", "cut", (None,), None),), (("after", 0), ("set", "c", 1))), 1)]:
            survey = slow.Survey(work, book)
            room = acting.Room(work, book, log, survey.fitting)
            for goal in (("know", ("does", "cut", ())), ("know", ("swept", log, "c")), ("have", ("stood", 0, 1, "c"), 0)):
                told = cheapest(work, book, log, goal, (1, 1), 2)
                self.assertEqual(told[1] if told[0] == "plan" else None, room.least(goal, (1, 1), 2, True))
                self.assertIs(shows_cheapest(Work(work.text), book, log, goal, (1, 1), 2, told), True)


if __name__ == "__main__":
    unittest.main()
