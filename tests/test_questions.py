"""Promise 9: which values are questions about a book."""

import unittest

from stepsunread.errors import BadBook
from stepsunread.questions import is_question
from stepsunread.works import Work
from tests.samples import ANY, told_of

# Two of the steps write one file; files a and e are of the sizes 2 and 4.
TEXT = (
    "file e 4\nfile a 2\nfile b 3\nfile c 2\nfile d 2\nstep two tree 2\n  reads a b\n  writes d c\n"
    "step b row 1\n  reads e\n  writes a\nstep x flat 0\n  reads a\n  writes b"
)
WORK = Work(TEXT)
BOOK = (
    (("set", "e", None), ("run", "two", (None,), None), ("saw", "a", 0)),
    (("after", 0), ("begin", "x"), ("run", "b", (), (0,)), ("set", "a", 1)),
    (("beside", 1),),
)
STAND = (3, 1, 2, 0, 0)
BAD_LOGS = [3, -1, True, False, None, "0", (0,), [0]]
BAD_FILES = ["two", "x", "f", "", None, 0, True, ("a",), ["a"], {}]
BAD_STEPS = ["a", "e", "y", "", None, 0, True, ("b",), ["b"], {}]
BAD_STANDS = [
    STAND[:4], STAND + (0,), list(STAND), (4,) + STAND[1:], (-1,) + STAND[1:], (True,) + STAND[1:], (None,) + STAND[1:],
    (), None, "3,1,2,0,0", ("3",) + STAND[1:]]


class QuestionsTest(unittest.TestCase):
    def check(self, good, bad):
        for value in good:
            self.assertIs(is_question(WORK, BOOK, value), True, value)
            others = [value[:-1], value + (0,), value + (None,), value + ((),), list(value), (value,), value[1:],
                      (value[0].title(),) + value[1:], (None,) + value[1:], ([value[0]],) + value[1:], (value,) + value[1:]]
            for other in others:
                self.assertIs(is_question(WORK, BOOK, other), False, other)
        for value in bad:
            self.assertIs(is_question(WORK, BOOK, value), False, value)

    def test_stood_and_wrote(self):
        for word in ("stood", "wrote"):
            good = [(word, 0, moment, "e") for moment in range(4)] + [(word, 1, moment, "a") for moment in range(5)]
            good += [(word, 2, 0, "c"), (word, 2, 1, "d")]
            bad = [(word, log, 0, "a") for log in BAD_LOGS]
            bad += [(word, 0, moment, "a") for moment in (4, -1, True, None, "0", (0,), 10 ** 30)]
            bad += [(word, 1, 5, "a"), (word, 2, 2, "a")] + [(word, 0, 0, file) for file in BAD_FILES]
            self.check(good, bad)

    def test_ran(self):
        bad = [("ran", log, 1) for log in BAD_LOGS + [1, 2]]
        bad += [("ran", 0, event) for event in (0, 2, 3, -2, True, None, "1", (1,))]
        bad += [("ran", 1, event) for event in (0, 1, 3, 4)] + [("ran", 2, 0)]
        self.check([("ran", 0, 1), ("ran", 1, 2)], bad)

    def test_had(self):
        good = [("had", 0, 0, content, file) for content in range(4) for file in WORK.files]
        good += [("had", 1, 3, 0, "e"), ("had", 1, 3, 1, "a")]
        bad = [("had", 0, 0, content, "a") for content in (4, -1, True, None, "0", (0,))]
        bad += [("had", 1, 3, content, "e") for content in (2, 3, -1)]
        bad += [("had", log, 0, 0, "a") for log in BAD_LOGS + [1, 2]]
        bad += [("had", 0, event, 0, "a") for event in (1, 2, 3, -1, -3, False, None)]
        bad += [("had", 1, event, 0, "a") for event in (0, 1, 2, 4)] + [("had", 0, 0, 0, file) for file in BAD_FILES]
        self.check(good, bad)

    def test_does(self):
        good = [("does", "two", way) for way in (
            (), (("a", 1),), (("b", 2), ("a", 0)), (("a", 0), ("a", 1), ("b", 0), ("b", 0), ("a", 0)))]
        good += [("does", "b", (("e", 3),)), ("does", "x", (("a", 0),))]
        bad = [("does", "two", way) for way in (
            (("a", 2),), (("b", 3),), (("c", 0),), (("e", 0),), (("a", -1),), (("a", True),), (("a", None),), (None,),
            [], None, "", ("a", 0), (("a",),), (("a", 0, 0),), (["a", 0],), ((None, 0),))]
        bad += [("does", step, ()) for step in BAD_STEPS] + [("does", "b", (("a", 0),)), ("does", "b", (("e", 4),))]
        self.check(good, bad)

    def test_uses(self):
        good = [("uses", step, file) for step in WORK.steps for file in WORK.files]
        bad = [("uses", "two", file) for file in BAD_FILES] + [("uses", step, "a") for step in BAD_STEPS]
        self.check(good, bad)

    def test_run(self):
        bad = [("run", step, STAND) for step in BAD_STEPS] + [("run", "b", stand) for stand in BAD_STANDS]
        self.check([("run", step, STAND) for step in WORK.steps], bad)

    def test_same(self):
        bad = [("same", step, "x", STAND) for step in BAD_STEPS] + [("same", "x", step, STAND) for step in BAD_STEPS]
        bad += [("same", step, step, STAND) for step in WORK.steps] + [("same", "b", "x", stand) for stand in BAD_STANDS]
        bad += [("same", "two", "x", STAND), ("same", "b", "two", STAND)]
        self.check([("same", "b", "x", STAND), ("same", "x", "b", STAND)], bad)

    def test_moves(self):
        good = [("moves", "two", STAND, file, size - 1) for file, size in zip(WORK.files, WORK.sizes)]
        good += [("moves", "two", STAND, file, 0) for file in WORK.files]
        bad = [("moves", "two", STAND, file, size) for file, size in zip(WORK.files, WORK.sizes)]
        bad += [("moves", "two", STAND, "a", content) for content in (-1, True, None, "0", (0,))]
        bad += [("moves", "two", stand, "a", 0) for stand in BAD_STANDS]
        bad += [("moves", step, STAND, "a", 0) for step in BAD_STEPS]
        bad += [("moves", "two", STAND, file, 0) for file in BAD_FILES]
        self.check(good, bad)

    def test_keeps(self):
        good = [("keeps", "two", STAND, files) for files in ((), ("a",), ("a", "b"), ("e",), ("a", "b", "c", "d", "e"))]
        bad = [("keeps", "two", STAND, files) for files in (
            ("b", "a"), ("e", "a"), ("a", "a"), ("a", "b", "b"), ("a", "f"), ("two",), [], ["a"], None, "a", (None,),
            ("a", None), ((),), (("a",),), (0,), ("a", True), {"a": 1}, ("",), (["a"], "b"))]
        bad += [("keeps", step, STAND, ()) for step in BAD_STEPS] + [("keeps", "b", stand, ()) for stand in BAD_STANDS]
        self.check(good, bad)

    def test_would_and_fresh(self):
        for word in ("would", "fresh"):
            bad = [(word, log, "b") for log in BAD_LOGS] + [(word, 0, step) for step in BAD_STEPS]
            self.check([(word, log, step) for log in range(3) for step in WORK.steps], bad)

    def test_still_and_sweeps(self):
        for word in ("still", "sweeps"):
            self.check([(word, log) for log in range(3)], [(word, log) for log in BAD_LOGS])

    def test_swept(self):
        bad = [("swept", log, "a") for log in BAD_LOGS] + [("swept", 0, file) for file in BAD_FILES]
        self.check([("swept", log, file) for log in range(3) for file in WORK.files], bad)

    def test_turns(self):
        good = [("turns", 2, changes) for changes in (
            (), (("a", 0),), (("d", 1),), (("a", 1), ("b", 2)), (("a", 1), ("b", 0), ("e", 3)))]
        bad = [("turns", 0, changes) for changes in (
            (("a", 2),), (("e", 4),), (("a", -1),), (("a", True),), (("a", None),), (("f", 0),), (("two", 0),),
            (("b", 0), ("a", 0)), (("a", 0), ("a", 1)), (("a", 0), ("a", 0)), [], None, "", ("a", 0), (["a", 0],),
            (("a",),), (("a", 0, 0),), (("a", 0), None), ((None, 0),), ((["a"], 0),), {}, (0,))]
        self.check(good, bad + [("turns", log, ()) for log in BAD_LOGS])

    def test_rests(self):
        self.assertIs(is_question(WORK, BOOK, ("rests",)), True)
        for value in ((), "rests", ["rests"], ("rests", 0), ("rests", None), ("rests", ()), (("rests",),), ("Rests",)):
            self.assertIs(is_question(WORK, BOOK, value), False)

    def test_aside_and_apart(self):
        pairs = [(step, other) for step in WORK.steps for other in WORK.steps if step != other]
        none = [(step, step) for step in WORK.steps] + [(step, "x") for step in BAD_STEPS] + [("x", step) for step in BAD_STEPS]
        bad = [("aside", 0) + pair for pair in none] + [("aside", log, "x", "b") for log in BAD_LOGS]
        self.check([("aside", log) + pair for log in range(3) for pair in pairs], bad)
        self.check([("apart",) + pair for pair in pairs], [("apart",) + pair for pair in none])

    def test_values_of_any_kind(self):
        deep = ("at", ("next", "two", ()), ())
        for _ in range(5000):
            deep = ("at", ("next", "two", ()), (deep, deep))
        for value in ANY + [WORK, BOOK, "rests", ("look",), ("stand", 0), (0, "still"), ("still",), deep, ("still", deep)]:
            self.assertIs(is_question(WORK, BOOK, value), False)
        self.assertIs(is_question(value=("still", 0), book=BOOK, work=WORK), True)

    def test_bad_books(self):
        for book in [value for value in ANY if value != ((), ())] + [((),) * 4, [()], BOOK[0], list(BOOK), ((), (("after", 1),))]:
            for value in (None, ("still", 0), ("rests",)):
                self.assertIs(told_of(self, BadBook, is_question, WORK, book, value), book)

    def test_nothing_is_changed(self):
        value = ["keeps", "two", [1], []]
        for _ in range(2):
            self.assertIs(is_question(WORK, BOOK, value), False)
        self.assertEqual(value, ["keeps", "two", [1], []])


if __name__ == "__main__":
    unittest.main()
