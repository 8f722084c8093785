"""Promise 11, its last part: from which note on something was known."""

import random
import unittest

from stepsunread.errors import BadBook, BadLog, BadQuestion, NoWorld, NotSure
from stepsunread.since import shows_since, since
from stepsunread.trees import tree
from stepsunread.works import Work
from tests import literal, slow
from tests.chances import SMALL, chance_book, chance_question, many_worlds
from tests.samples import ANY, MILL, NO_BOOKS, told_of

WORK = Work(MILL)
ABOUT_STEPS = ("does", "uses", "run", "same", "moves", "keeps", "rests", "apart")
QUESTION = ("run", "cut", (0, 0, 0))
LOG = (("set", "a", 0), ("run", "cut", (("a", 0),), (2,)), ("saw", "b", 1), ("run", "cut", (("a", 0),), (2,)))
BAD = ((("set", "a", 0), ("saw", "a", 1)),)
# A question of each word that names a log, about a log that begins with a set and a run.
ABOUT_LOGS = [("stood", 0, 1, "a"), ("ran", 0, 1), ("wrote", 0, 1, "a"), ("had", 0, 0, 1, "c"), ("would", 0, "cut"),
              ("fresh", 0, "cut"), ("still", 0), ("swept", 0, "c"), ("sweeps", 0), ("turns", 0, ()), ("aside", 0, "cut", "mix")]


def cut(book, log, number):
    return book[:log] + (book[log][:number],) + book[log + 1:]


class SinceTest(unittest.TestCase):
    def test_by_hand(self):
        number, grown, pair = since(WORK, (LOG,), 0, QUESTION)
        self.assertEqual(number, 2)
        self.assertIs(shows_since(WORK, (LOG,), 0, QUESTION, (number, grown, pair)), True)
        # What another log tells whole is known from the beginning.
        self.assertEqual(since(WORK, (LOG, LOG), 1, QUESTION)[0::2], (0, None))
        self.assertEqual(since(WORK, (LOG, ()), 0, QUESTION)[0], 2)
        self.assertEqual(since(WORK, (((("begin", "cut"),) + LOG[2:3]), LOG), 1, QUESTION)[0], 2)
        # A question of which nothing has to be known.
        work = Work("file a 2\nfile x 2\nstep add sums 1\n  reads a\n  writes x")
        self.assertEqual(since(work, ((("saw", "a", 1),),), 0, ("does", "add", ()))[0::2], (0, None))

    def test_against_all_worlds(self):
        chance = random.Random(40)
        seen = {}
        for _ in range(900):
            work = Work(chance.choice(SMALL))
            book = chance_book(chance, work, 5)
            log = chance.randrange(len(book))
            question = chance_question(chance, work, book, ABOUT_STEPS)
            if many_worlds(work, book) > 800 or not all(slow.starts_fresh(told) for told in book[log:]):
                continue
            answers = [answer for answer, _ in slow.Survey(work, book).shares(question)]
            with self.subTest(text=work.text, book=book, log=log, question=question):
                if len(answers) == 1:
                    number = self.compare(chance, work, book, log, question)
                    seen[number > 0] = seen.get(number > 0, 0) + 1
                elif answers:
                    for call in (since, lambda *told: shows_since(*told, None)):
                        told = told_of(self, NotSure, call, work, book, log, question)
                        self.assertTrue(literal.is_like(told, tuple(answers)))
                else:
                    self.assertIsNone(told_of(self, NoWorld, since, work, book, log, question))
                    self.assertIsNone(told_of(self, NoWorld, shows_since, work, book, log, question, None))
        self.assertGreater(min(seen[True], seen[False]), 2)

    def compare(self, chance, work, book, log, question):
        surveys = [slow.Survey(work, cut(book, log, number)) for number in range(len(book[log]) + 1)]
        many = [len(survey.shares(question)) for survey in surveys]
        told = since(work, book, log, question)
        number, grown, pair = told
        self.assertEqual(number, many.index(1))
        self.assertEqual(since(work, book, log, question), told)

        def shown(value):
            return shows_since(work, book, log, question, value)

        self.assertIs(shown(told), True)
        self.assertTrue(surveys[number].parts(grown, question))
        self.assertIs(shown((number, grown, (None, None))), False)
        if number:
            ahead = surveys[number - 1]
            answers = {world: ahead.answer(world, question) for world in ahead.fitting}
            for _ in range(5):
                one, other = chance.choice(ahead.all), chance.choice(ahead.all)
                is_one = one in answers and other in answers and answers[one] != answers[other]
                self.assertIs(shown((number, grown, (one, other))), is_one)
            self.assertIs(shown((number, grown, pair[::-1])), True)
            self.assertIs(shown((number, grown, None)), False)
            self.assertIs(shown((number, grown, pair[:1] * 2)), False)
            self.assertIs(shown((number, grown, list(pair))), False)
        else:
            self.assertIsNone(pair)
        for other, survey in enumerate(surveys):
            branch = tree(work, cut(book, log, other), question)
            if other != number:
                self.assertIs(shown((other, branch, pair)), False)
                self.assertIs(shown((other, grown, None)), False)
            else:
                self.assertIs(shown((other, branch, pair)), True)
        for value in [None, (number, grown), [number, grown, pair], (number, None, pair), (None, grown, pair),
                      (-1, grown, pair), (number, grown, pair, 0), (number == 1, grown, pair)]:
            self.assertIs(shown(value), False, value)
        return number

    def test_logs(self):
        books = [((LOG, (("after", 0),)), 0, 0), ((LOG, (("beside", 0),), LOG), 2, 1), ((LOG, LOG, (("after", 0),)), 2, 0),
                 ((LOG, (("after", 0),), ()), 2, 1), ((LOG, (("after", 0),), ()), 2, 0), ((LOG,), 0, 1),
                 ((LOG,), 0, -1), ((LOG, LOG), 1, 2), ((LOG, LOG, (("after", 0),)), 2, 1)]
        for book, _, log in books:
            for question in (QUESTION, 7):
                self.assertEqual(told_of(self, BadLog, since, WORK, book, log, question), log)
                self.assertEqual(told_of(self, BadLog, shows_since, WORK, book, log, question, 7), log)
        self.assertEqual(since(WORK, (LOG, (("after", 0),), ()), 2, QUESTION)[0], 0)
        for log in [value for value in ANY if value.__class__ is not int or value != 0] + [BAD]:
            for book in ((LOG,), BAD):
                self.assertIs(told_of(self, BadLog, since, WORK, book, log, QUESTION), log)
                self.assertIs(told_of(self, BadLog, shows_since, WORK, book, log, QUESTION, None), log)

    def test_questions(self):
        for question in ABOUT_LOGS + ANY + [("does", "cut"), ["rests"]]:
            for book in ((LOG,), BAD):
                self.assertIs(told_of(self, BadQuestion, since, WORK, book, 0, question), question)
                self.assertIs(told_of(self, BadQuestion, shows_since, WORK, book, 0, question, None), question)

    def test_other_errors(self):
        for book in NO_BOOKS:
            self.assertIs(told_of(self, BadBook, since, WORK, book, 7, 7), book)
            self.assertIs(told_of(self, BadBook, shows_since, WORK, book, 7, 7, 7), book)
        self.assertIsNone(told_of(self, NoWorld, since, WORK, BAD, 0, QUESTION))
        self.assertIsNone(told_of(self, NoWorld, shows_since, WORK, BAD, 0, QUESTION, None))
        self.assertEqual(told_of(self, NotSure, since, WORK, (LOG,), 0, ("uses", "cut", "b")), (False, True))
        self.assertEqual(told_of(self, NotSure, shows_since, WORK, (LOG,), 0, ("uses", "cut", "b"), None), (False, True))
        for value in ANY:
            self.assertIs(shows_since(WORK, (LOG,), 0, QUESTION, value), False)


if __name__ == "__main__":
    unittest.main()
