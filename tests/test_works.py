"""Promise 4: what works tell of themselves."""

import itertools
import unittest

from stepsunread.errors import BadWork, NoFile, NoStep
from stepsunread.works import Work
from tests.samples import ANY, MILL, WORDS, YARD, told_of


class WorksTest(unittest.TestCase):
    def test_mill(self):
        work = Work(MILL)
        self.assertEqual(work.text, MILL)
        self.assertEqual(work.files, ("a", "b", "c"))
        self.assertEqual(work.sizes, (2, 2, 3))
        self.assertEqual(work.steps, ("cut", "mix"))
        self.assertEqual(work.kinds, ("tree", "flat"))
        self.assertEqual(work.mosts, (2, 1))
        self.assertEqual(work.sources, ("a",))
        self.assertEqual([work.reads("cut"), work.reads("mix")], [("a", "b"), ("c",)])
        self.assertEqual([work.writes("cut"), work.writes("mix")], [("c",), ("b",)])
        self.assertEqual([work.claims("cut"), work.claims("mix")], [(), ("ends",)])
        self.assertEqual([work.maker(file) for file in work.files], [None, "mix", "cut"])

    def test_a_step_called_like_a_file(self):
        work = Work(text=YARD)
        self.assertEqual(work.steps, ("a", "glue"))
        self.assertEqual(work.sources, ("a", "b"))
        self.assertEqual(work.writes("a"), ("c", "d"))
        self.assertEqual([work.maker(file) for file in work.files], [None, None, "a", "a", "glue"])
        self.assertEqual(work.claims("glue"), ("if c = 1 then e = 0",))

    def test_names_that_are_words(self):
        work = Work(WORDS)
        self.assertEqual(work.files, ("file", "step", "reads", "if", "then", "fails"))
        self.assertEqual(work.steps, ("step", "ends"))
        self.assertEqual(work.reads("step"), ("if", "then", "file"))
        self.assertEqual(work.claims("step"), (
            "if if = 1 and then = 0 then fails", "if then = 1 then fails = 1", "if file = 0 then reads != 2"))
        self.assertEqual(work.sources, ("file", "if", "then"))

    def test_claims_in_words(self):
        head = "file fails 2\nfile ends 2\nfile if 2\nfile and 2\nstep then tree 2\n  reads if and\n  writes fails ends"
        for claim in (
                "fails", "ends", "fails = 1", "ends != 0", "if if = 0 then fails", "if and = 1 then ends",
                "if and = 1 then ends = 1", "if if = 1 and and = 0 then fails != 1",
                "if and = 1 and if = 0 then ends"):
            self.assertEqual(Work(head + "\n  claim " + claim).claims("then"), (claim,))

    def test_sizes_names_and_numbers_of_files(self):
        for many in range(2, 7):
            for size in (2, 3, 4):
                names = ["abcdefgh"[:8 - k] for k in range(many)]
                lines = ["file %s %d" % (name, size) for name in names]
                lines += ["step abcdefgh tree 1", "  reads " + names[0], "  writes " + names[1]]
                work = Work("\n".join(lines))
                self.assertEqual(work.files, tuple(names))
                self.assertEqual(work.sizes, (size,) * many)
                self.assertEqual(work.sources, tuple(names[:1] + names[2:]))

    def test_each_kind_with_each_most_that_has_room(self):
        files = "file a 2\nfile b 2\nfile c 2\nfile d 2\nfile x 2\nfile y 2\n"
        for kind, many, most in itertools.product(("tree", "row", "flat", "sums"), range(1, 5), range(4)):
            text = files + "step s %s %d\n  reads %s\n  writes y x" % (kind, most, " ".join("abcd"[:many]))
            if most > many or (kind == "sums" and most != many):
                self.assertEqual(told_of(self, BadWork, Work, text), 8)
                continue
            work = Work(text)
            self.assertEqual((work.kinds, work.mosts, work.writes("s")), ((kind,), (most,), ("y", "x")))

    def test_three_steps_in_a_ring(self):
        work = Work("file a 2\nfile b 3\nfile c 4\nstep z tree 0\n  reads a\n  writes b\n  claim ends\n  claim b != 0\n"
                    "  claim if a = 1 then b != 1\nstep y row 1\n  reads b\n  writes c\nstep x flat 1\n  reads c\n  writes a")
        self.assertEqual(work.steps, ("z", "y", "x"))
        self.assertEqual(work.kinds, ("tree", "row", "flat"))
        self.assertEqual(work.sources, ())
        self.assertEqual(work.claims("z"), ("ends", "b != 0", "if a = 1 then b != 1"))

    def test_no_step_and_no_file(self):
        work = Work(MILL)
        for value in ANY + ["a", "b", "c", work]:
            for call in (work.reads, work.writes, work.claims):
                self.assertIs(told_of(self, NoStep, call, value), value)
        for value in ANY + ["cut", "mix", work]:
            self.assertIs(told_of(self, NoFile, work.maker, value), value)
        self.assertEqual(told_of(self, NoStep, work.reads, step="a"), "a")
        self.assertEqual(told_of(self, NoStep, work.writes, step="a"), "a")
        self.assertEqual(told_of(self, NoStep, work.claims, step="a"), "a")
        self.assertEqual(told_of(self, NoFile, work.maker, file="cut"), "cut")

    def test_equality(self):
        self.assertTrue(Work(MILL) == Work(MILL))
        self.assertFalse(Work(MILL) != Work(MILL))
        self.assertFalse(Work(MILL) == Work(YARD))
        self.assertTrue(Work(MILL) != Work(MILL + "\n  claim ends"))
        for value in ANY + [MILL]:
            self.assertFalse(Work(MILL) == value)
            self.assertTrue(Work(MILL) != value)


if __name__ == "__main__":
    unittest.main()
