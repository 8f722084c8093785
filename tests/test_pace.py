"""Books of a few cases that took long: what is told of them stays as it was, and comes by fewer calls.

Calls of functions are counted, as they are the same on each machine; the
bounds are about half of what was needed once.
"""

import itertools
import sys
import unittest

from stepsunread.asking import ask, is_sure, shows_answers
from stepsunread.counts import worlds
from stepsunread.keys import key, shows_key
from stepsunread.leaning import lean, shows_lean
from stepsunread.runs import run
from stepsunread.since import shows_since, since
from stepsunread.trees import shows_tree, tree
from stepsunread.works import Work
from stepsunread.worlds import fits, is_world, misfits, stands
from tests import look_in_full, reference, slow

CHAIN = "file a 2\nfile b 2\nfile c 2\nstep cut tree 1\n  reads a\n  writes b\nstep mix tree 1\n  reads b\n  writes c"
DEEP = "file a 2\nfile b 2\nfile c 2\nstep cut tree 2\n  reads a b\n  writes c"
WIDE = ("file a 4\nfile b 2\nfile c 2\nfile d 2\nfile e 4\nfile f 4\nstep cut tree 1\n  reads c d e\n  writes b f\n"
        "step cutx row 0\n  reads c\n  writes a")
SUMS = ("file a 2\nfile b 2\nfile c 2\nfile d 2\nstep sew sums 1\n  reads c\n  writes d\n"
        "step mix sums 1\n  reads b\n  writes c\nstep cut sums 1\n  reads a\n  writes b")
PAIRS = ("file a 2\nfile b 2\nfile c 2\nfile d 2\nfile e 2\nfile f 2\nstep cut tree 2\n  reads a b\n  writes c d\n"
         "step mix tree 2\n  reads c d\n  writes e f")
LONE = "file a 3\nfile c 2\nstep cut tree 1\n  reads a\n  writes c"
CLAIMS = ("file a 2\nfile c 2\nfile d 2\nstep cut tree 1\n  reads a\n  writes c\nstep mix tree 1\n  reads c\n  writes d\n"
          "  claim if c = 0 then d = 0\n  claim if c = 1 then d = 1")
SUMS_BOOK = (
    (("set", "a", 0), ("run", "cut", (("a", 0),), (0,)), ("run", "mix", (("b", 0),), (0,)), ("run", "sew", (("c", 0),), (0,)),
     ("set", "a", 1), ("run", "cut", (("a", 1),), (1,)), ("run", "mix", (("b", 1),), (1,)), ("run", "sew", (("c", 1),), (1,))),
    (("after", 0), ("set", "a", 0)))
LEAN_BOOK = ((("run", "mix", (None,), "fail"), ("run", "cut", (("a", None),), (1,)), ("run", "cut", (("a", 1),), (1,))),)
LEAN_QUESTIONS = (("stood", 0, 0, "c"), ("moves", "mix", (0, 0, 1), "b", 0))


class PaceTest(unittest.TestCase):
    def setUp(self):
        look_in_full(False)

    def tearDown(self):
        look_in_full()

    def told(self, most, call, *values, **named):
        """What the call tells, by at most so many calls."""
        many = 0

        def count(frame, event, arg):
            nonlocal many
            many += event in ("call", "c_call")

        ahead = sys.getprofile()
        sys.setprofile(count)
        try:
            found = call(*values, **named)
        finally:
            sys.setprofile(ahead)
        self.assertLessEqual(many, most, call.__name__)
        return found

    def test_worlds(self):
        book = ((("set", "a", None), ("run", "cut", (None,), None)), (("set", "c", None), ("run", "cut", (None,), None)))
        self.assertEqual(self.told(1000, worlds, Work(DEEP), book), 74496)
        book = ((("run", "cut", (None,), (0, 0)), ("run", "cutx", (None,), (0,))),)
        self.assertEqual(self.told(4000, worlds, Work(WIDE), book), 382976)

    def test_many_worlds_one_behind_the_other(self):
        work = Work(CHAIN)
        book = ((("run", "mix", (), None), ("set", "b", None)),)
        world = ((("end", (1,)), ("read", "b", (("fail",), ("end", (0,))))), ((0, 0, 1),), ((1,),), ((),))
        self.assertEqual(misfits(work, book, world), ((0, 0),))
        self.assertEqual(self.told(70, misfits, work, book, world), ((0, 0),))
        self.assertEqual(self.told(70, stands, work, book, world), (((0, 0, 1), (0, 0, 1), (0, 1, 1)),))
        self.assertIs(self.told(70, fits, work, book, world), False)
        self.assertIs(self.told(70, is_world, work, book, world), True)
        self.assertEqual(self.told(45, run, work, world[0], "mix", (0, 1, 0)), ((("b", 1),), (0,)))
        self.assertEqual(self.told(45, run, work, world[0], "cut", (0, 1, 0)), ((), (1,)))
        rows = slow.all_worlds(work, book)
        self.assertEqual(len(rows), 2304)
        for other in rows:
            self.assertEqual((stands(work, book, other), misfits(work, book, other)), reference.go_through(work, book, other))
        self.assertEqual(len([other for other in rows if fits(work, book, other)]), worlds(work, book))

    def test_answers(self):
        question = ("apart", "cut", "sew")
        work = Work(SUMS)
        found = self.told(1500, ask, work, SUMS_BOOK, question)
        self.assertEqual([answer for answer, _ in found[0]], [True])
        self.assertIs(self.told(200, shows_answers, work, SUMS_BOOK, question, found), True)
        self.assertIs(self.told(2300, shows_answers, Work(SUMS), SUMS_BOOK, question, found), True)
        self.assertIs(self.told(1500, is_sure, Work(SUMS), SUMS_BOOK, question), True)

    def test_sweeps_of_what_is_known(self):
        log = ()
        for one, two in itertools.product((0, 1), (0, 1)):
            log += (("set", "a", one), ("set", "b", two), ("run", "cut", (("a", one), ("b", two)), (one, two)),
                    ("run", "mix", (("c", one), ("d", two)), (two, one)))
        book = log + (("saw", "a", 1), ("saw", "b", 1), ("saw", "c", 1), ("saw", "d", 1)), (("after", 0), ("set", "a", None))
        found = self.told(5000, ask, Work(PAIRS), book, ("sweeps", 1))
        self.assertEqual([answer for answer, _ in found[0]], [0, 1])
        self.assertIs(self.told(7000, shows_answers, Work(PAIRS), book, ("sweeps", 1), found), True)

    def test_lean(self):
        given = ((0, 2),)
        work = Work(CHAIN)
        found = self.told(14000, lean, work, LEAN_BOOK, LEAN_QUESTIONS, given=given)
        self.assertEqual((found[0], found[2]), ((), ()))
        self.assertIs(self.told(500, shows_lean, work, LEAN_BOOK, LEAN_QUESTIONS, found, given=given), True)
        self.assertIs(self.told(16000, shows_lean, Work(CHAIN), LEAN_BOOK, LEAN_QUESTIONS, found, given=given), True)
        book = ((("run", "cut", (("a", None),), (0,)), ("run", "cut", (None,), None), ("run", "cut", (("a", 1),), None)),
                (("run", "cut", (("a", None),), None), ("run", "cut", (("a", 0),), (0,)), ("run", "cut", (("a", None),), (0,))))
        questions = (("run", "cut", (0, 1)), ("moves", "cut", (2, 0), "c", 1), ("moves", "cut", (0, 1), "a", 2))
        given = ((0, 1), (1, 0), (1, 2))
        found = self.told(25000, lean, Work(LONE), book, questions, given=given)
        self.assertEqual(found[0], ((1, 1),))
        self.assertIs(self.told(20000, shows_lean, Work(LONE), book, questions, found, given=given), True)

    def test_trees(self):
        for question in LEAN_QUESTIONS:
            work = Work(CHAIN)
            found = self.told(2400, tree, work, LEAN_BOOK, question)
            self.assertIs(self.told(200, shows_tree, work, LEAN_BOOK, question, found), True)
            self.assertIs(self.told(2900, shows_tree, Work(CHAIN), LEAN_BOOK, question, found), True)

    def test_keys(self):
        book = ((("run", "cut", (("a", None),), "fail"),), (("after", 0), ("saw", "c", None)))
        asked = "cut", (0, 1, 0), (3,)
        found = self.told(1500, key, Work(CHAIN), book, *asked)
        self.assertEqual(found[:2], (3, ("a",)))
        self.assertIs(self.told(1500, shows_key, Work(CHAIN), book, *asked, found), True)

    def test_since(self):
        book = ((("set", "a", 0), ("run", "cut", (("a", 0),), (0,)), ("set", "a", 1), ("run", "cut", (("a", 1),), (1,))),)
        question = ("same", "cut", "mix", (1, 1, 0))
        found = self.told(3000, since, Work(CLAIMS), book, 0, question)
        self.assertEqual(found[0], 4)
        self.assertIs(self.told(2000, shows_since, Work(CLAIMS), book, 0, question, found), True)


if __name__ == "__main__":
    unittest.main()
