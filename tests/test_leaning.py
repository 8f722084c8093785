"""Promise 11, its second part: the fewest notes that must be wrong, and the fewest that keep the answers."""

import itertools
import random
import unittest

from stepsunread.errors import BadBook, BadMarks, BadQuestion, BadQuestions, NoWorld
from stepsunread.leaning import amends, lean, shows_amends, shows_lean
from stepsunread.trees import tree
from stepsunread.works import Work
from tests import literal, slow
from tests.chances import SMALL, chance_book, chance_marks, chance_question, many_worlds, spoiled
from tests.samples import ANY, MILL, NO_BOOKS, told_of
from tests.test_clashes import BAD, BOOK, Wrongs, others

WORK = Work(MILL)
QUESTION = ("run", "cut", (0, 0, 0))


def tuples(marks):
    """All tuples of marks, few first, then the least first."""
    return [row for many in range(len(marks) + 1) for row in itertools.combinations(marks, many)]


def bars_all(marks, told, rows):
    """Whether each tuple ahead of the told one has none of the marks of some row."""
    ahead = tuples(marks)[:tuples(marks).index(told)]
    return all(any(not set(row) & set(chosen) for row in rows) for chosen in ahead)


class AmendsTest(unittest.TestCase):
    def test_example_of_section_11(self):
        self.assertEqual(amends(WORK, BAD)[0], ((0, 1),))

    def test_against_all_worlds(self):
        chance = random.Random(30)
        seen = {0: 0, 1: 0, 2: 0}
        tries = 0
        while min(seen.values()) < 3 and tries < 4000:
            tries += 1
            work = Work(chance.choice(SMALL))
            book = spoiled(chance, spoiled(chance, chance_book(chance, work)))
            if many_worlds(work, book) > 800 or len(slow.marks_of(book)) > 7:
                continue
            wrongs = Wrongs(work, book)
            marks = slow.marks_of(book)
            best = [row for row in tuples(marks) if wrongs.fitting(row)][0]
            many = min(len(best), 2)
            seen[many] += 1
            if seen[many] > (4, 8, 8)[many]:
                continue
            with self.subTest(text=work.text, book=book):
                told = amends(work, book)
                self.assertEqual(told[0], best)
                self.assertIn(told[1], wrongs.fitting(best))
                self.assertEqual(amends(work, book), told)
                self.alter(chance, work, book, wrongs, told)
        self.assertGreater(min(seen.values()), 0)

    def alter(self, chance, work, book, wrongs, told):
        marks, world, rows = told
        self.assertIs(shows_amends(work, book, told), True)
        everything = slow.marks_of(book)
        # Rows of other marks, whole trees, and rows that are not needed.
        more = tuple(row for row in tuples(everything) if not wrongs.fitting(others(book, row)))
        more = tuple((row, tree(work, book, None, left=others(book, row))) for row in more)
        self.assertIs(shows_amends(work, book, (marks, world, more)), True)
        self.assertIs(shows_amends(work, book, (marks, world, rows + more[:2])), True)
        for other in chance.sample(wrongs.survey.all, 5):
            self.assertIs(shows_amends(work, book, (marks, other, rows)), wrongs.wrong[other] <= set(marks))
        for _ in range(5):
            some = tuple(chance.sample(more, chance.randint(0, len(more))))
            is_one = bars_all(everything, marks, [row[0] for row in some])
            self.assertIs(shows_amends(work, book, (marks, world, some)), is_one)
        for chosen in chance.sample(tuples(everything), min(5, len(tuples(everything)))):
            is_one = chosen == marks
            found = wrongs.fitting(chosen)
            if found:
                self.assertIs(shows_amends(work, book, (chosen, found[0], more)), is_one)
        bad = [(marks, world), [marks, world, rows], (marks, world, list(rows)), (list(marks), world, rows),
               (marks, None, rows), (marks, world, None), (marks, world, rows + (None,)), (marks, world, rows + ((),)),
               (marks, world, rows + (((), ("gives", None)),)), (marks, world, rows + (((), None),)),
               (marks + ((9, 9),), world, rows), (marks, world, rows, 0), (marks, world, rows + ((everything, None),))]
        if rows:
            told_marks, shown = rows[-1]
            bad += [(marks, world, rows + ((other, shown),)) for other in (
                list(told_marks), told_marks + ((9, 9),), told_marks[:1] + told_marks, told_marks + (None,), None)]
            bad += [(marks, world, rows[:-1] + (list(rows[-1]),)), (marks, world, ()),
                    (marks, world, rows[:-1] + ((rows[-1][0], ("gives", None)),)), (marks[::-1] * 2, world, rows)]
        for value in bad:
            self.assertIs(shows_amends(work, book, value), False, value)

    def test_several_tuples_of_one_length(self):
        # Either run may be wrong, or the set.
        book = ((("set", "a", 0), ("run", "cut", (("a", 0),), (1,)), ("run", "cut", (("a", 0),), (2,)), ("saw", "c", 0)),)
        told = amends(WORK, book)
        self.assertEqual(told[0], ((0, 1), (0, 2)))
        self.assertIs(shows_amends(WORK, book, told), True)
        book = ((("saw", "a", 0), ("saw", "a", 1), ("saw", "b", 0), ("saw", "b", 1), ("saw", "c", 0), ("saw", "c", 1)),)
        told = amends(WORK, book)
        self.assertEqual(told[0], ((0, 0), (0, 2), (0, 4)))
        self.assertIs(shows_amends(WORK, book, told), True)

    def test_errors(self):
        for book in NO_BOOKS:
            self.assertIs(told_of(self, BadBook, amends, WORK, book), book)
            self.assertIs(told_of(self, BadBook, shows_amends, WORK, book, 7), book)
        for value in ANY:
            self.assertIs(shows_amends(WORK, BAD, value), False)
        self.assertEqual(amends(WORK, BOOK)[0::2], ((), ()))


class LeanTest(unittest.TestCase):
    def test_notes_of_a_neighbour(self):
        book = BOOK + ((("set", "a", 1), ("run", "cut", (("a", 1),), (0,)), ("saw", "b", 1)),)
        question = ("run", "cut", (1, 0, 0))
        marks, trees, rows = lean(WORK, book, (question,))
        self.assertEqual(marks, ((1, 1),))
        self.assertEqual(lean(WORK, book, (QUESTION, question))[0], ((0, 2), (1, 1)))
        self.assertEqual(lean(WORK, book, (QUESTION, question), given=((0, 1), (0, 2)))[0], ((1, 1),))
        self.assertEqual(lean(WORK, book, (QUESTION,), given=((0, 2),))[0], ())
        told = marks, trees, rows
        self.assertIs(shows_lean(WORK, book, (question,), told), True)
        self.assertIs(shows_lean(WORK, book, (question,), told, given=((1, 1),)), False)
        self.assertIs(shows_lean(WORK, book, (QUESTION,), told), False)

    def test_against_all_worlds(self):
        chance = random.Random(31)
        seen = {0: 0, 1: 0, 2: 0}
        tries = 0
        while min(seen.values()) < 4 and tries < 3000:
            tries += 1
            work = Work(chance.choice(SMALL))
            book = chance_book(chance, work)
            if many_worlds(work, book) > 800 or len(slow.marks_of(book)) > 6:
                continue
            questions = tuple(chance_question(chance, work, book) for _ in range(chance.randint(1, 3)))
            given = chance_marks(chance, book)
            wrongs = Wrongs(work, book)
            if not wrongs.fitting(()):
                self.assertIsNone(told_of(self, NoWorld, lean, work, book, questions, given=given))
                self.assertIsNone(told_of(self, NoWorld, shows_lean, work, book, questions, None, given=given))
                continue
            checker = Checker(work, book, questions, given, wrongs)
            many = min(len(checker.best), 2)
            seen[many] += 1
            if seen[many] > (6, 12, 12)[many]:
                continue
            with self.subTest(text=work.text, book=book, questions=questions, given=given):
                told = lean(work, book, questions, given=given)
                self.assertEqual(told[0], checker.best)
                self.assertEqual(lean(work, book, questions, given=given), told)
                checker.alter(self, chance, told)
        self.assertGreater(min(seen.values()), 0)

    def test_errors(self):
        for book in NO_BOOKS:
            self.assertIs(told_of(self, BadBook, lean, WORK, book, 7, given=7), book)
            self.assertIs(told_of(self, BadBook, shows_lean, WORK, book, 7, 7, given=7), book)
        for questions in [value for value in ANY if not (isinstance(value, tuple) and 1 <= len(value) <= 3)] + [
                [QUESTION], (QUESTION,) * 4, ()]:
            for book in (BOOK, BAD):
                self.assertIs(told_of(self, BadQuestions, lean, WORK, book, questions, given=7), questions)
                self.assertIs(told_of(self, BadQuestions, shows_lean, WORK, book, questions, 7, given=7), questions)
        for question in ANY + [("ran", 0, 0), ["rests"]]:
            for questions in ((question,), (QUESTION, question), (QUESTION, question, None), (question, QUESTION, [])):
                for book in (BOOK, BAD):
                    self.assertIs(told_of(self, BadQuestion, lean, WORK, book, questions, given=7), question)
                    self.assertIs(told_of(self, BadQuestion, shows_lean, WORK, book, questions, 7, given=7), question)
        self.assertIs(told_of(self, BadQuestion, lean, WORK, BOOK, QUESTION), "run")
        for given in [value for value in ANY if value != ()] + [((0, 9),), ((0, 1), (0, 0)), [(0, 0)], ((False, 0),)]:
            for book in (BOOK, BAD):
                self.assertIs(told_of(self, BadMarks, lean, WORK, book, (QUESTION,), given=given), given)
                self.assertIs(told_of(self, BadMarks, shows_lean, WORK, book, (QUESTION,), 7, given=given), given)
        self.assertIsNone(told_of(self, NoWorld, lean, WORK, BAD, (QUESTION,)))
        self.assertIsNone(told_of(self, NoWorld, shows_lean, WORK, BAD, (QUESTION,), 7))
        for value in ANY:
            self.assertIs(shows_lean(WORK, BOOK, (QUESTION,), value), False)


class Checker:
    """What lean should tell of a book, and takes."""

    def __init__(self, work, book, questions, given, wrongs):
        self.work, self.book, self.questions, self.given, self.wrongs = work, book, questions, given, wrongs
        self.rest = list(others(book, given))
        fitting = wrongs.fitting(())
        self.answers = [{wrongs.survey.answer(world, question) for world in fitting} for question in questions]
        # The questions to which a world gives an answer that no world that fits has.
        self.strange = {world: [k for k, question in enumerate(questions)
                                if wrongs.survey.answer(world, question) not in self.answers[k]]
                        for world in wrongs.survey.all}
        self.best = [row for row in tuples(self.rest) if self.is_enough(row)][0]

    def is_enough(self, chosen):
        kept = set(self.given) | set(chosen)
        return not any(self.strange[world] for world in self.wrongs.survey.all if not self.wrongs.wrong[world] & kept)

    def trees(self, chosen):
        left = others(self.book, tuple(self.given) + tuple(chosen))
        return tuple(tree(self.work, self.book, question, left=left) for question in self.questions)

    def alter(self, test, chance, told):
        marks, trees, rows = told

        def shown(value):
            return shows_lean(self.work, self.book, self.questions, value, given=self.given)

        test.assertIs(shown(told), True)
        test.assertIs(shown((marks, self.trees(marks), rows)), True)
        worlds = [world for world in self.wrongs.survey.all if not self.wrongs.wrong[world] & set(self.given)]
        fine = [(k, world) for world in worlds for k in self.strange[world]]
        for _ in range(4):
            some = tuple(chance.sample(fine, min(len(fine), chance.randint(0, 4))))
            is_one = bars_all(self.rest, marks, [self.wrongs.wrong[row[1]] for row in some])
            test.assertIs(shown((marks, trees, some)), is_one)
            test.assertIs(shown((marks, trees, rows + some)), True)
        for world in chance.sample(self.wrongs.survey.all, 4):
            for k in range(len(self.questions)):
                test.assertIs(shown((marks, trees, rows + ((k, world),))), (k, world) in fine)
        for chosen in chance.sample(tuples(self.rest), min(4, len(tuples(self.rest)))):
            test.assertIs(shown((chosen, self.trees(chosen), tuple(fine[:200]) + rows)), chosen == marks)
        bad = [(marks, trees), [marks, trees, rows], (marks, list(trees), rows), (marks, trees[1:], rows),
               (marks, trees + trees[:1], rows), (marks, trees, list(rows)), (list(marks), trees, rows), (None, trees, rows),
               (marks, (None,) * len(trees), rows), (marks, trees, rows + (None,)), (marks, trees, rows + ((0, None),)),
               (marks, trees, rows, 0), (marks + ((9, 9),), trees, rows)]
        if rows:
            bad += [(marks, trees, ()), (marks, trees, rows + ((len(trees), rows[0][1]),)),
                    (marks, trees, rows + ((False, rows[0][1]),)), (marks, trees, rows + (list(rows[0]),))]
        for value in bad:
            test.assertIs(shown(value), False, value)


if __name__ == "__main__":
    unittest.main()
