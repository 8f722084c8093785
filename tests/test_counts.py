"""Promise 10: how many worlds fit, and how they are shared among answers."""

import random
import unittest

from stepsunread.counts import shares, worlds
from stepsunread.errors import BadBook, BadMarks, BadQuestion
from stepsunread.programs import programs
from stepsunread.works import Work
from tests import literal, reference, slow
from tests.chances import SMALL, chance_book, chance_marks, chance_question, many_worlds
from tests.samples import ANY, MILL, NO_BOOKS, YARD, told_of

WORK = Work(MILL)
BOOK = ((("set", "a", 0), ("set", "b", 1), ("run", "cut", (("a", 0),), (2,))),)


class CountsTest(unittest.TestCase):
    def test_examples_of_section_10(self):
        told = [worlds(WORK, ((),)), worlds(WORK, BOOK), shares(WORK, BOOK, ("fresh", 0, "mix"))]
        self.assertEqual(told, [96480, 2400, ((False, 1200), (True, 1200))])

    def test_against_all_worlds(self):
        chance = random.Random(10)
        for _ in range(70):
            work = Work(chance.choice(SMALL))
            book = chance_book(chance, work)
            if many_worlds(work, book) > 2500:
                continue
            left = chance_marks(chance, book)
            question = chance_question(chance, work, book)
            survey = slow.Survey(work, book, left)
            with self.subTest(text=work.text, book=book, left=left, question=question):
                self.assertEqual(worlds(work, book, left=left), len(survey.fitting))
                told = shares(work, book, question)
                self.assertTrue(literal.is_like(told, slow.Survey(work, book).shares(question)))
                self.assertEqual(sum(row[1] for row in told), worlds(work, book))

    def test_all_marks_left_out(self):
        chance = random.Random(11)
        for _ in range(20):
            work = Work(chance.choice(SMALL))
            book = chance_book(chance, work)
            many = many_worlds(work, book)
            if many < 5000:
                self.assertEqual(worlds(work, book, left=tuple(slow.marks_of(book))), many)

    def test_great_numbers_by_hand(self):
        crews = programs(WORK, "cut") * programs(WORK, "mix")
        self.assertEqual(worlds(WORK, ((), (), ())), crews * 12 ** 3)
        log = (("set", "c", None),) * 20
        self.assertEqual(worlds(WORK, (log, log, log)), crews * 12 ** 3 * 3 ** 60)
        self.assertEqual(worlds(WORK, (log, (("after", 0),) + log[1:])), crews * 12 * 3 ** 39)
        log = (("set", "c", 1),) * 20
        self.assertEqual(worlds(WORK, (log,)), crews * 12)
        self.assertEqual(worlds(WORK, (log,), left=((0, 3), (0, 7))), crews * 12 * 9)
        # Two sets beside three: ten weavings.
        pair = ((("set", "a", None),) * 2, (("beside", 0),) + (("set", "b", None),) * 3)
        self.assertEqual(worlds(WORK, pair), crews * 12 * 2 ** 5 * 10)
        yard = Work(YARD)
        self.assertEqual(worlds(yard, ((("saw", "a", 0),),)), programs(yard, "a") * programs(yard, "glue") * 24)
        # The run reads a and ends with 2: 803 programs of cut less those that do something else first.
        book = ((("set", "a", 0), ("run", "cut", (("a", 0),), (2,))),)
        self.assertEqual(worlds(WORK, book), 20 * 10 * 12)

    def test_books_that_no_world_fits(self):
        book = ((("set", "a", 0), ("saw", "a", 1)),)
        self.assertEqual(worlds(WORK, book), 0)
        self.assertEqual(shares(WORK, book, ("rests",)), ())
        self.assertEqual(worlds(WORK, book, left=((0, 1),)), 96480)

    def test_fewer_notes_leave_no_fewer_worlds_and_answers(self):
        chance = random.Random(12)
        for _ in range(40):
            work = Work(chance.choice(SMALL))
            book = chance_book(chance, work)
            if many_worlds(work, book) > 20000:
                continue
            question = chance_question(chance, work, book, ("does", "uses", "run", "keeps", "moves", "same", "rests"))
            marks, many, answers = slow.marks_of(book), -1, set()
            for count in range(len(marks) + 1):
                left = tuple(marks[:count])
                self.assertGreaterEqual(worlds(work, book, left=left), many)
                many = worlds(work, book, left=left)
                survey = slow.Survey(work, book, left) if many_worlds(work, book) < 800 else None
                if survey:
                    now = {answer for answer, _ in survey.shares(question)}
                    self.assertLessEqual(answers, now)
                    answers = now

    def test_errors(self):
        for book in NO_BOOKS:
            self.assertIs(told_of(self, BadBook, worlds, WORK, book, left=7), book)
            self.assertIs(told_of(self, BadBook, shares, WORK, book, 7), book)
        for left in [value for value in ANY if value != ()] + [((0, 3),), ((0, 1), (0, 0)), ((0, 0), (0, 0)), [(0, 0)],
                                                               ((False, 0),)]:
            self.assertIs(told_of(self, BadMarks, worlds, WORK, BOOK, left=left), left)
        for question in ANY + [("ran", 0, 0), ["rests"]]:
            self.assertIs(told_of(self, BadQuestion, shares, WORK, BOOK, question), question)
        with self.assertRaises(TypeError):
            worlds(WORK, BOOK, ())

    def test_misfits_of_each_world(self):
        chance = random.Random(13)
        for _ in range(10):
            work = Work(chance.choice(SMALL))
            book = chance_book(chance, work, 2)
            marks = slow.marks_of(book)
            if many_worlds(work, book) > 1500 or len(marks) > 4:
                continue
            wrong = [set(reference.go_through(work, book, world)[1]) for world in slow.all_worlds(work, book, marks)]
            for count in range(len(marks) + 1):
                left = tuple(marks[count:])
                self.assertEqual(worlds(work, book, left=left), len([row for row in wrong if row <= set(left)]))


if __name__ == "__main__":
    unittest.main()
