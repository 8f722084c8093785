"""Promise 12, its first part: which files alone keep a result."""

import itertools
import random
import unittest

from stepsunread.errors import BadBook, BadPrices, BadStand, NoStep, NoWorld
from stepsunread.keys import key, shows_key
from stepsunread.trees import tree
from stepsunread.works import Work
from tests import slow
from tests.chances import SMALL, chance_book, many_worlds
from tests.samples import ANY, MILL, NO_BOOKS, YARD, told_of

WORK = Work(MILL)
BOOK = ((("set", "a", 0), ("set", "b", 1), ("run", "cut", (("a", 0),), (2,))),)
BAD = ((("set", "a", 0), ("saw", "a", 1)),)
# A step that reads three files and writes two.
WIDE = "file a 2\nfile b 2\nfile c 2\nfile x 2\nfile y 2\nstep go row 2\n  reads c a b\n  writes x y\n  claim if c = 0 then x = 0"


def candidates(work, step, prices):
    """(price, files), the cheapest first, of one price the least first."""
    rows = []
    for many in range(len(prices) + 1):
        for pairs in itertools.combinations(sorted(zip(work.reads(step), prices)), many):
            rows.append((sum(price for _, price in pairs), tuple(file for file, _ in pairs)))
    return sorted(rows)


class KeyTest(unittest.TestCase):
    def test_example_of_section_12(self):
        self.assertEqual(key(WORK, BOOK, "cut", (0, 1, 2), (3, 2))[:2], (3, ("a",)))
        self.assertEqual(key(WORK, BOOK, "cut", (1, 1, 2), (3, 2))[:2], (5, ("a", "b")))

    def test_against_all_worlds(self):
        chance = random.Random(50)
        done = 0
        while done < 60:
            work = Work(chance.choice(SMALL))
            book = chance_book(chance, work, 3)
            if many_worlds(work, book) > 1000:
                continue
            survey = slow.Survey(work, book)
            step, stand = chance.choice(work.steps), chance.choice(slow.stands_of(work))
            prices = tuple(chance.randint(1, 3) for _ in work.reads(step))
            with self.subTest(text=work.text, book=book, step=step, stand=stand, prices=prices):
                if survey.fitting:
                    done += 1
                    self.compare(chance, work, book, survey, (step, stand, prices))
                else:
                    self.assertIsNone(told_of(self, NoWorld, key, work, book, step, stand, prices))
                    self.assertIsNone(told_of(self, NoWorld, shows_key, work, book, step, stand, prices, None))

    def compare(self, chance, work, book, survey, asked):
        step, stand, prices = asked
        rows = candidates(work, step, prices)
        at = [all(survey.answer(world, ("keeps", step, stand, files)) for world in survey.fitting)
              for _, files in rows].index(True)
        told = key(work, book, *asked)
        self.assertEqual(told[:2], rows[at])
        self.assertEqual(key(work, book, *asked), told)
        price, files, grown, barring = told

        def shown(value):
            return shows_key(work, book, *asked, value)

        self.assertIs(shown(told), True)
        self.assertTrue(survey.parts(grown, ("keeps", step, stand, files)))
        # Rows of any kind: of worlds that fit and not, with stands at which the end is another one and not.
        some = [(chance.choice(survey.all), chance.choice(slow.stands_of(work))) for _ in range(12)]
        for row in some:
            self.assertIs(shown(told[:3] + (barring + (row,),)), self.bars(work, survey, step, stand, row))
        fine = [row for row in some if self.bars(work, survey, step, stand, row)]
        told_ahead = [files for _, files in rows[:at]]
        for count in range(len(fine) + 1):
            is_one = all(any(all(self.is_alike(work, row, stand, file) for file in names) for row in fine[:count])
                         for names in told_ahead)
            self.assertIs(shown(told[:3] + (tuple(fine[:count]),)), is_one)
        for other_price, other in rows:
            branch = tree(work, book, ("keeps", step, stand, other))
            everything = tuple(fine) + barring
            is_one = (other_price, other) == (price, files)
            self.assertIs(shown((other_price, other, branch, everything)), is_one)
        for value in [told[:3], list(told), (price + 1,) + told[1:], (price, files + ("zz",)) + told[2:], told + (0,),
                      (price, list(files)) + told[2:], (price, files + files[:1] + ("a",)) + told[2:], told[:2] + (None, barring),
                      told[:3] + (list(barring),), told[:3] + (None,), told[:3] + (barring + (None,),), (price == 1,) + told[1:],
                      told[:2] + (("gives", None), barring), None]:
            self.assertIs(shown(value), False, value)

    def is_alike(self, work, row, stand, file):
        return row[1][work.files.index(file)] == stand[work.files.index(file)]

    def bars(self, work, survey, step, stand, row):
        world, other = row
        if world not in survey.fitting:
            return False
        return survey.answer(world, ("run", step, stand))[1] != survey.answer(world, ("run", step, other))[1]

    def test_a_step_that_reads_three_files_and_writes_two(self):
        work = Work(WIDE)
        book = ((("set", "c", 0), ("run", "go", (("c", 0), ("a", None)), (0, None)), ("set", "c", 1), ("set", "a", 1),
                 ("run", "go", (("c", 1),), (1, 1))),)
        stand = (0, 0, 1, 0, 0)
        self.assertEqual(key(work, book, "go", stand, (5, 1, 1))[:2], (5, ("c",)))
        stand = (0, 0, 0, 0, 0)
        told = key(work, book, "go", stand, (5, 1, 1))
        self.assertEqual(told[:2], (6, ("a", "c")))
        self.assertIs(shows_key(work, book, "go", stand, (5, 1, 1), told), True)
        # Of tuples of one price the least: a and b, not c.
        book = ((("run", "go", (("a", 0), ("b", 0)), (0, 0)),), (("run", "go", (("a", 0), ("b", 1)), (0, 1)),))
        told = key(work, book, "go", stand, (2, 1, 1))
        self.assertEqual(told[:2], (2, ("a", "b")))
        self.assertIs(shows_key(work, book, "go", stand, (2, 1, 1), told), True)

    def test_a_pair_of_logs(self):
        book = ((("begin", "cut"), ("reads", "cut", (("a", 0),)), ("end", "cut", (1,))), (("beside", 0), ("set", "b", 1)))
        told = key(WORK, book, "cut", (0, 0, 0), (9, 9))
        self.assertEqual(told[:2], (9, ("a",)))
        self.assertIs(shows_key(WORK, book, "cut", (0, 0, 0), (9, 9), told), True)

    def test_files_that_never_matter(self):
        book = ((("run", "cut", (), (1,)),),)
        told = key(WORK, book, "cut", (0, 0, 0), (1, 1))
        self.assertEqual((told[:2], told[3]), ((0, ()), ()))
        self.assertIs(shows_key(WORK, book, "cut", (0, 0, 0), (1, 1), told), True)
        # Other rows are taken too, if they bar; none does here.
        world = (((("end", (1,))), ("end", (0,))), ((0, 0, 0),), ((),), ((),))
        self.assertIs(shows_key(WORK, book, "cut", (0, 0, 0), (1, 1), told[:3] + (((world, (1, 1, 1)),),)), False)

    def test_errors(self):
        for book in NO_BOOKS:
            self.assertIs(told_of(self, BadBook, key, WORK, book, 7, 7, 7), book)
            self.assertIs(told_of(self, BadBook, shows_key, WORK, book, 7, 7, 7, 7), book)
        for book in (BOOK, BAD):
            for step in ANY + ["a"]:
                self.assertIs(told_of(self, NoStep, key, WORK, book, step, 7, 7), step)
                self.assertIs(told_of(self, NoStep, shows_key, WORK, book, step, 7, 7, 7), step)
            for stand in ANY + [(0, 0), (0, 0, 3), (0, 0, True), [0, 0, 0], (0, 0, 0, 0)]:
                self.assertIs(told_of(self, BadStand, key, WORK, book, "cut", stand, 7), stand)
                self.assertIs(told_of(self, BadStand, shows_key, WORK, book, "cut", stand, 7, 7), stand)
            for prices in [value for value in ANY] + [(1,), (1, 1, 1), (0, 1), (1, 10), (1, True), [1, 1], (1, None)]:
                self.assertIs(told_of(self, BadPrices, key, WORK, book, "cut", (0, 0, 0), prices), prices)
                self.assertIs(told_of(self, BadPrices, shows_key, WORK, book, "cut", (0, 0, 0), prices, 7), prices)
        self.assertIsNone(told_of(self, NoWorld, key, WORK, BAD, "cut", (0, 0, 0), (1, 9)))
        self.assertIsNone(told_of(self, NoWorld, shows_key, WORK, BAD, "cut", (0, 0, 0), (1, 9), None))
        for value in ANY:
            self.assertIs(shows_key(WORK, BOOK, "cut", (0, 0, 0), (1, 9), value), False)
        self.assertEqual(len(key(Work(YARD), ((),), "a", (0,) * 5, (9, 1))), 4)


if __name__ == "__main__":
    unittest.main()
