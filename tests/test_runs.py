"""Promise 6: runs and the stands behind them."""

import itertools
import unittest

from stepsunread.errors import BadCrew, BadEnd, BadStand, NoStep
from stepsunread.runs import behind, run
from stepsunread.works import Work
from tests import reference
from tests.samples import ANY, MILL, YARD, told_of

CUT = ("read", "a", (("end", (2,)), ("read", "b", (("end", (0,)), ("fail",)))))
MIX = ("read", "c", (("end", (0,)), ("end", (1,)), ("end", (1,))))
CREW = (CUT, MIX)
# Two files are written, the later one of the work first.
TWO = "file a 2\nfile b 3\nfile c 4\nstep s tree 1\n  reads b\n  writes c a"


class RunsTest(unittest.TestCase):
    def test_ways_and_ends(self):
        work = Work(MILL)
        self.assertEqual(run(work, CREW, "cut", (0, 1, 0)), ((("a", 0),), (2,)))
        self.assertEqual(run(work, CREW, "cut", (1, 0, 2)), ((("a", 1), ("b", 0)), (0,)))
        self.assertEqual(run(work, CREW, "cut", (1, 1, 2)), ((("a", 1), ("b", 1)), "fail"))
        self.assertEqual(run(work, CREW, "mix", (1, 1, 2)), ((("c", 2),), (1,)))
        self.assertEqual(run(work, (("fail",), ("end", (1,))), "cut", (1, 1, 2)), ((), "fail"))
        self.assertEqual(run(work, (("fail",), ("end", (1,))), "mix", (1, 1, 2)), ((), (1,)))
        self.assertEqual(run(stand=(0, 0, 0), step="mix", crew=CREW, work=work), ((("c", 0),), (0,)))

    def test_each_kind_at_each_stand(self):
        files = "file a 2\nfile b 2\nfile c 2\nfile d 2\nstep s %s 2\n  reads b a\n  writes %s"
        for kind, written in itertools.product(("tree", "row", "flat", "sums"), ("c", "d c")):
            text = files % (kind, written)
            work = Work(text)
            found = [program for program in reference.all_programs(text.replace(written, "c"), "s")]
            for program in found[::7]:
                program = widened(program) if written == "d c" else program
                for stand in itertools.product(range(2), repeat=4):
                    told = reference.run_down(program, dict(zip("abcd", stand)))
                    self.assertEqual(run(work, (program,), "s", stand), told)

    def test_behind(self):
        work = Work(TWO)
        self.assertEqual(behind(work, "s", (0, 2, 0), (3, 1)), (1, 2, 3))
        self.assertEqual(behind(work, "s", (1, 2, 3), (3, 1)), (1, 2, 3))
        self.assertEqual(behind(work, "s", (0, 2, 0), "fail"), (0, 2, 0))
        self.assertEqual(behind(end=(2,), stand=(0, 0, 0), step="cut", work=Work(MILL)), (0, 0, 2))
        work = Work(YARD)
        self.assertEqual(behind(work, "a", (1, 2, 0, 0, 1), (1, 0)), (1, 2, 1, 0, 1))
        self.assertEqual(behind(work, "glue", (1, 2, 0, 0, 1), (0,)), (1, 2, 0, 0, 0))

    def test_bad_crews(self):
        work = Work(MILL)
        bad = [
            (CUT,), (CUT, MIX, MIX), [CUT, MIX], (MIX, CUT), (CUT, CUT), (MIX, MIX), (CUT, ("fail",)), (CUT, None),
            (list(CUT), MIX), (("end", (True,)), MIX), (("end", (3,)), MIX), {"cut": CUT, "mix": MIX}, CUT,
            (("read", "a", (CUT, CUT)), MIX), (("read", "a", [("fail",), ("fail",)]), MIX)]
        for value in bad + ANY:
            self.assertIs(told_of(self, BadCrew, run, work, value, "none", None), value)

    def test_no_step(self):
        work = Work(MILL)
        for value in ANY + ["a", work]:
            self.assertIs(told_of(self, NoStep, run, work, CREW, value, None), value)
            self.assertIs(told_of(self, NoStep, behind, work, value, None, None), value)

    def test_bad_stands(self):
        work = Work(MILL)
        bad = [(0, 0), (0, 0, 0, 0), [0, 0, 0], (2, 0, 0), (0, 0, 3), (0, -1, 0), (True, 0, 0), (0, 0, False),
               (0, None, 0), (0, "0", 0), {"a": 0}, "000", ((0, 0, 0),)]
        for value in bad + ANY:
            self.assertIs(told_of(self, BadStand, run, work, CREW, "cut", value), value)
            self.assertIs(told_of(self, BadStand, behind, work, "cut", value, None), value)

    def test_bad_ends(self):
        work = Work(TWO)
        bad = [(3,), (3, 1, 1), [3, 1], (4, 0), (0, 2), (-1, 0), (True, 0), (0, None), "fails", ("fail",), "3,1",
               ("end", (3, 1)), (0, "1"), (None, None)]
        for value in bad + [value for value in ANY if value != "fail"]:
            self.assertIs(told_of(self, BadEnd, behind, work, "s", (0, 0, 0), value), value)

    def test_nothing_is_changed(self):
        crew, stand = [CUT, MIX], [0, 0, 0]
        told_of(self, BadCrew, run, Work(MILL), crew, "cut", stand)
        told_of(self, BadStand, run, Work(MILL), CREW, "cut", stand)
        self.assertEqual((crew, stand), ([CUT, MIX], [0, 0, 0]))


def widened(program):
    """The program with a second file, the other content of the first one."""
    if program[0] == "read":
        return program[:2] + (tuple(widened(branch) for branch in program[2]),)
    return program if program[0] == "fail" else ("end", (program[1][0], 1 - program[1][0]))


if __name__ == "__main__":
    unittest.main()
