"""Promise 11, its first part: notes that contradict, and notes that are enough."""

import random
import unittest

from stepsunread.clashes import clash, grounds, shows_clash, shows_grounds
from stepsunread.errors import BadBook, BadQuestion, NoWorld, NotSure
from stepsunread.trees import tree
from stepsunread.works import Work
from tests import literal, reference, slow
from tests.chances import SMALL, chance_book, chance_question, many_worlds
from tests.samples import ANY, MILL, NO_BOOKS, told_of

WORK = Work(MILL)
BOOK = ((("set", "a", 0), ("set", "b", 1), ("run", "cut", (("a", 0),), (2,))),)
BAD = ((("set", "a", 0), ("run", "cut", (("a", 0),), (1,)), ("run", "cut", (("a", 0),), (2,))),)


def others(book, marks):
    return tuple(mark for mark in slow.marks_of(book) if mark not in marks)


class Wrongs:
    """All worlds of a book, whatever is noted, with what is wrong in them."""

    def __init__(self, work, book):
        self.survey = slow.Survey(work, book, slow.marks_of(book))
        self.wrong = {world: set(reference.go_through(work, book, world)[1]) for world in self.survey.all}

    def fitting(self, left):
        return [world for world in self.survey.all if self.wrong[world] <= set(left)]

    def stripped(self, book, is_enough):
        """The marks that stay if all others are left out, one by one, as long as what is left is enough."""
        gone = []
        for mark in slow.marks_of(book):
            if is_enough(self.fitting(gone + [mark])):
                gone.append(mark)
        return others(book, gone)


class ClashTest(unittest.TestCase):
    def test_example_of_section_11(self):
        self.assertEqual(clash(WORK, BAD)[0], ((0, 1), (0, 2)))

    def test_against_all_worlds(self):
        chance = random.Random(20)
        seen = {True: 0, False: 0}
        while min(seen.values()) < 7:
            work = Work(chance.choice(SMALL))
            book = chance_book(chance, work)
            if many_worlds(work, book) > 1000:
                continue
            wrongs = Wrongs(work, book)
            is_fine = bool(wrongs.fitting(()))
            seen[is_fine] += 1
            if seen[is_fine] > 7:
                continue
            with self.subTest(text=work.text, book=book):
                told = clash(work, book)
                self.assertIs(shows_clash(work, book, told), True)
                self.assertIs(shows_clash(work, book, None), is_fine)
                if is_fine:
                    self.assertIsNone(told)
                    self.assertIs(shows_clash(work, book, ((), tree(work, book, None))), False)
                else:
                    self.compare(chance, work, book, wrongs, told)

    def compare(self, chance, work, book, wrongs, told):
        marks, shown = told
        self.assertEqual(marks, wrongs.stripped(book, lambda found: not found))
        self.assertEqual(clash(work, book), told)
        for other in range(5):
            some = tuple(sorted(chance.sample(slow.marks_of(book), chance.randint(0, len(slow.marks_of(book))))))
            grown = tree(work, book, None, left=others(book, some))
            is_one = not wrongs.fitting(others(book, some))
            self.assertIs(shows_clash(work, book, (some, grown)), is_one)
            is_told = literal.shows(work, book, None, shown, others(book, some)) and is_one
            self.assertIs(shows_clash(work, book, (some, shown)), is_told)
        for value in [(marks[::-1] + marks, shown), (list(marks), shown), (marks,), [marks, shown], (marks, shown, 0),
                      (marks, ("gives", None)), (shown, marks), ((), shown), (marks, None), (marks[1:], shown)]:
            is_one = literal.shows(work, book, None, shown, others(book, value[0])) if value[0] == marks[1:] else False
            self.assertIs(shows_clash(work, book, value), is_one, value)

    def test_sets_are_left_out_too(self):
        # Without the set, the saw is no contradiction.
        book = ((("set", "a", 0), ("saw", "b", 1), ("saw", "a", 1)),)
        self.assertEqual(clash(WORK, book)[0], ((0, 0), (0, 2)))
        self.assertIs(shows_clash(WORK, book, (((0, 0), (0, 2)), ("shut", 0, 2))), True)
        self.assertIs(shows_clash(WORK, book, (((0, 0), (0, 1), (0, 2)), ("shut", 0, 2))), False)
        self.assertIs(shows_clash(WORK, book, (((0, 2),), ("shut", 0, 2))), False)

    def test_errors(self):
        for book in NO_BOOKS:
            self.assertIs(told_of(self, BadBook, clash, WORK, book), book)
            self.assertIs(told_of(self, BadBook, shows_clash, WORK, book, 7), book)
        for value in ANY:
            if value is not None:
                self.assertIs(shows_clash(WORK, BAD, value), False)
        self.assertIs(shows_clash(WORK, BAD, None), False)
        self.assertIs(shows_clash(WORK, BOOK, None), True)


class GroundsTest(unittest.TestCase):
    def test_against_all_worlds(self):
        chance = random.Random(21)
        seen = {0: 0, 1: 0, 2: 0}
        while min(seen.values()) < 6:
            work = Work(chance.choice(SMALL))
            book = chance_book(chance, work)
            if many_worlds(work, book) > 800:
                continue
            question = chance_question(chance, work, book)
            wrongs = Wrongs(work, book)
            answers = [answer for answer, _ in slow.Survey(work, book).shares(question)]
            many = min(len(answers), 2)
            seen[many] += 1
            if seen[many] > 8:
                continue
            with self.subTest(text=work.text, book=book, question=question):
                if many == 1:
                    self.compare(chance, work, book, question, wrongs, answers[0])
                elif many:
                    told = told_of(self, NotSure, grounds, work, book, question)
                    self.assertTrue(literal.is_like(told, tuple(answers)))
                    self.assertIs(shows_grounds(work, book, question, None), False)
                    grown = tree(work, book, question)
                    value = tuple(slow.marks_of(book)), answers[0], grown
                    self.assertIs(shows_grounds(work, book, question, value), False)
                else:
                    self.assertIsNone(told_of(self, NoWorld, grounds, work, book, question))
                    self.assertIsNone(told_of(self, NoWorld, shows_grounds, work, book, question, None))

    def compare(self, chance, work, book, question, wrongs, answer):
        survey = wrongs.survey

        def is_enough(found):
            return {survey.answer(world, question) for world in found} == {answer}

        told = grounds(work, book, question)
        marks, same, shown = told
        self.assertTrue(literal.is_like(same, answer))
        self.assertEqual(marks, wrongs.stripped(book, is_enough))
        self.assertIs(shows_grounds(work, book, question, told), True)
        self.assertEqual(grounds(work, book, question), told)
        for _ in range(4):
            some = tuple(sorted(chance.sample(slow.marks_of(book), chance.randint(0, len(slow.marks_of(book))))))
            grown = tree(work, book, question, left=others(book, some))
            is_one = is_enough(wrongs.fitting(others(book, some)))
            self.assertIs(shows_grounds(work, book, question, (some, answer, grown)), is_one)
        for value in [(marks, None if answer is not None else 0, shown), (marks, (answer,), shown), (marks, answer), None,
                      [marks, answer, shown], (list(marks), answer, shown), (marks + ((9, 9),), answer, shown),
                      (marks, answer, None), (marks, answer, shown, 0)]:
            self.assertIs(shows_grounds(work, book, question, value), False, value)
        if isinstance(answer, bool):
            self.assertIs(shows_grounds(work, book, question, (marks, int(answer), shown)), False)
            self.assertIs(shows_grounds(work, book, question, (marks, not answer, shown)), False)

    def test_notes_that_are_enough(self):
        marks, answer, _ = grounds(WORK, BOOK, ("run", "cut", (0, 0, 0)))
        self.assertEqual((marks, answer), (((0, 2),), ((("a", 0),), (2,))))
        self.assertEqual(grounds(WORK, BOOK, ("stood", 0, 1, "a"))[:2], (((0, 2),), 0))
        self.assertEqual(grounds(WORK, BOOK, ("stood", 0, 3, "b"))[:2], (((0, 1),), 1))
        self.assertEqual(told_of(self, NotSure, grounds, WORK, BOOK, ("fresh", 0, "mix")), (False, True))

    def test_errors(self):
        for book in NO_BOOKS:
            self.assertIs(told_of(self, BadBook, grounds, WORK, book, 7), book)
            self.assertIs(told_of(self, BadBook, shows_grounds, WORK, book, 7, 7), book)
        for question in ANY + [("ran", 0, 0), ["rests"]]:
            for book in (BOOK, BAD):
                self.assertIs(told_of(self, BadQuestion, grounds, WORK, book, question), question)
                self.assertIs(told_of(self, BadQuestion, shows_grounds, WORK, book, question, 7), question)
        for value in ANY:
            self.assertIs(shows_grounds(WORK, BOOK, ("run", "cut", (0, 0, 0)), value), False)


if __name__ == "__main__":
    unittest.main()
