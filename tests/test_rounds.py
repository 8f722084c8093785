"""Promise 12, its second part: in how few rounds steps may run side by side."""

import itertools
import random
import unittest

from stepsunread.errors import BadBook, BadSteps, NoWorld
from stepsunread.rounds import rounds, shows_rounds
from stepsunread.trees import tree
from stepsunread.works import Work
from tests import slow
from tests.chances import SMALL, chance_book, many_worlds
from tests.samples import ANY, MILL, NO_BOOKS, told_of

WORK = Work(MILL)
BOOK = ((("set", "a", 0), ("set", "b", 1), ("run", "cut", (("a", 0),), (2,))),)
BAD = ((("set", "a", 0), ("saw", "a", 1)),)
# Three steps, each of which reads what the one ahead of it writes, if it reads anything.
CHAIN = ("file a 2\nfile b 2\nfile c 2\nfile d 2\nstep one tree 1\n  reads a\n  writes b\n"
         "step two tree 1\n  reads b\n  writes c\nstep six tree 1\n  reads c\n  writes d")


def reading(step, file, zero, one):
    """Events that tell all of what a step does that reads the file."""
    return (("set", file, 0), ("run", step, ((file, 0),), (zero,)), ("set", file, 1), ("run", step, ((file, 1),), (one,)))


def never(step, content):
    """An event that tells that a step reads nothing."""
    return (("run", step, (), (content,)),)


class RoundsTest(unittest.TestCase):
    def test_example_of_section_12(self):
        told = rounds(WORK, BOOK, ("cut", "mix"))
        self.assertEqual(told[0], (("cut",), ("mix",)))
        self.assertIs(shows_rounds(WORK, BOOK, ("cut", "mix"), told), True)
        self.assertEqual(rounds(WORK, BOOK, ("mix", "cut"))[0], (("mix",), ("cut",)))
        self.assertEqual(rounds(WORK, BOOK, ("mix",)), ((("mix",),), ()))
        self.assertEqual(rounds(WORK, BOOK, ()), ((), ()))
        self.assertIs(shows_rounds(WORK, BOOK, (), ((), ())), True)
        self.assertIs(shows_rounds(WORK, BOOK, (), (((),), ())), False)

    def test_three_steps(self):
        work = Work(CHAIN)
        one, two, six = (reading("one", "a", 0, 1), reading("two", "b", 0, 1), reading("six", "c", 0, 1))
        cases = [
            ((one, two, six), ("one", "two", "six"), (("one",), ("two",), ("six",))),
            ((one, two, six), ("six", "one", "two"), (("six", "one"), ("two",))),
            ((one, two, six), ("two", "one", "six"), (("two",), ("one", "six"))),
            ((never("one", 0), never("two", 0), never("six", 0)), ("one", "two", "six"), (("one", "two", "six"),)),
            ((one, never("two", 0), six), ("one", "two", "six"), (("one", "two"), ("six",))),
            ((one, never("two", 0), six), ("six", "two", "one"), (("six", "one"), ("two",))),
            ((one, two, never("six", 1)), ("six", "two", "one"), (("six", "two"), ("one",)))]
        for logs, steps, expected in cases:
            book = tuple(logs)
            told = rounds(work, book, steps)
            with self.subTest(book=book, steps=steps):
                self.assertEqual(told[0], expected)
                self.assertEqual([row[:2] for row in told[1]], list(itertools.combinations(steps, 2)))
                self.assertIs(shows_rounds(work, book, steps, told), True)
                self.alter(work, book, steps, told)

    def alter(self, work, book, steps, told):
        """What shows_rounds does not take."""
        shape, rows = told
        bad = [(shape,), [shape, rows], (list(shape), rows), (shape, list(rows)), (shape[::-1], rows), (shape + ((),), rows),
               (tuple(part[::-1] for part in shape) + ((),), rows), (tuple((step,) for step in steps) + ((),), rows),
               (shape, rows[1:]), (shape, rows[::-1]), (shape, rows + rows[:1]), (shape, rows, 0), (shape, None), (None, rows),
               (tuple(list(part) for part in shape), rows), (shape, (None,) + rows[1:]), (shape, (rows[0][:2],) + rows[1:]),
               (shape, (list(rows[0]),) + rows[1:]), (shape, (rows[0][:2] + (None,),) + rows[1:]),
               (shape, ((rows[0][1], rows[0][0], rows[0][2]),) + rows[1:]),
               (shape, (rows[0][:2] + (("gives", None),),) + rows[1:])]
        for value in bad:
            if value != told or isinstance(value, list):
                self.assertIs(shows_rounds(work, book, steps, value), False, value)
        # More rounds than are needed.
        if len(shape) < len(steps):
            self.assertIs(shows_rounds(work, book, steps, (tuple((step,) for step in steps), rows)), False)

    def test_against_all_worlds(self):
        chance = random.Random(60)
        seen = {True: 0, False: 0}
        for _ in range(400):
            work = Work(chance.choice(SMALL))
            book = chance_book(chance, work, 3)
            steps = tuple(chance.sample(work.steps, len(work.steps)))
            if len(steps) < 2 or many_worlds(work, book) > 700 or max(seen.values()) > 25:
                continue
            survey = slow.Survey(work, book)
            with self.subTest(text=work.text, book=book, steps=steps):
                if not survey.fitting:
                    self.assertIsNone(told_of(self, NoWorld, rounds, work, book, steps))
                    self.assertIsNone(told_of(self, NoWorld, shows_rounds, work, book, steps, None))
                    continue
                question = ("apart",) + steps
                answers = {world: survey.answer(world, question) for world in survey.fitting}
                is_apart = all(answers.values())
                seen[is_apart] += 1
                told = rounds(work, book, steps)
                self.assertEqual(told[0], (steps,) if is_apart else ((steps[0],), (steps[1],)))
                self.assertEqual(rounds(work, book, steps), told)
                self.assertIs(shows_rounds(work, book, steps, told), True)
                grown = tree(work, book, question)
                self.assertIs(shows_rounds(work, book, steps, ((steps,), (steps + (grown,),))), is_apart)
                for world in chance.sample(survey.all, 5):
                    is_one = world in answers and not answers[world]
                    value = ((steps[0],), (steps[1],)), (steps + (world,),)
                    self.assertIs(shows_rounds(work, book, steps, value), is_one)
                    self.assertIs(shows_rounds(work, book, steps, ((steps,), (steps + (world,),))), False)
        self.assertGreater(min(seen.values()), 1)

    def test_errors(self):
        for book in NO_BOOKS:
            self.assertIs(told_of(self, BadBook, rounds, WORK, book, 7), book)
            self.assertIs(told_of(self, BadBook, shows_rounds, WORK, book, 7, 7), book)
        for steps in [value for value in ANY if value not in ((), ("cut",))] + [
                ("cut", "cut"), ["cut"], ("cut", "zz"), ("cut", None), ("mix", "cut", "mix"), (["cut"],), "cut"]:
            for book in (BOOK, BAD):
                self.assertIs(told_of(self, BadSteps, rounds, WORK, book, steps), steps)
                self.assertIs(told_of(self, BadSteps, shows_rounds, WORK, book, steps, 7), steps)
        for steps in ((), ("cut",), ("cut", "mix")):
            self.assertIsNone(told_of(self, NoWorld, rounds, WORK, BAD, steps))
            self.assertIsNone(told_of(self, NoWorld, shows_rounds, WORK, BAD, steps, None))
        for value in ANY:
            self.assertIs(shows_rounds(WORK, BOOK, ("cut", "mix"), value), False)


if __name__ == "__main__":
    unittest.main()
