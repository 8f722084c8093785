"""Promise 14: mills, the real thing."""

import copy
import random
import unittest

from stepsunread.errors import (
    BadContent, BadCount, BadCrew, BadStand, NoFile, NoStep, NotUnderWay, UnderWay,
)
from stepsunread.mills import Mill
from stepsunread.works import Work
from tests import reference, slow
from tests.samples import ANY, MILL, YARD, told_of

WORK = Work(MILL)
CUT = ("read", "a", (("end", (2,)), ("read", "b", (("end", (0,)), ("end", (1,))))))
MIX = ("read", "c", (("end", (0,)), ("end", (1,)), ("end", (1,))))
# Steps that write two files, that fail, that read nothing, that read two.
WORKS = (MILL, "file a 2\nfile b 2\nfile c 2\nfile d 2\nstep two tree 2\n  reads a b\n  writes c d\n"
               "step back flat 1\n  reads d\n  writes a\n",
         "file x 2\nfile y 2\nfile z 2\nstep p tree 1\n  reads x\n  writes y z\nstep q row 1\n  reads y z\n  writes x",
         "file a 2\nfile b 2\nfile x 2\nstep add sums 2\n  reads a b\n  writes x")


class Twin:
    """A mill, followed literally."""

    def __init__(self, work, crew, stand):
        self.work, self.crew = work, crew
        self.stand = dict(zip(work.files, stand))
        self.left, self.ways = {}, {}

    def program(self, step):
        return self.crew[self.work.steps.index(step)]

    def write(self, step, end, many=2):
        if end != "fail":
            self.stand.update(zip(self.work.writes(step)[:many], end))

    def read_on(self, step):
        place = self.left[step]
        if place[0] != "read":
            return None
        read = place[1], self.stand[place[1]]
        self.left[step] = place[2][read[1]]
        self.ways[step] += (read,)
        return read

    def rest(self, step):
        reads = []
        while self.left[step][0] == "read":
            reads.append(self.read_on(step))
        place = self.left.pop(step)
        self.ways.pop(step)
        return tuple(reads), place[1] if place[0] == "end" else "fail"

    def come(self, word, *parts):
        if word == "put":
            self.stand[parts[0]] = parts[1]
            return None
        step = parts[0]
        if word == "make":
            told = reference.run_down(self.program(step), self.stand)
            self.write(step, told[1])
            return told
        if word == "begin":
            self.left[step], self.ways[step] = self.program(step), ()
            return None
        if word == "read_on":
            return self.read_on(step)
        if word == "stop" and parts[1] == 0:
            self.left.pop(step)
            self.ways.pop(step)
            return (), ()
        reads, end = self.rest(step)
        if word == "finish":
            self.write(step, end)
            return reads, end
        self.write(step, end, parts[1])
        return reads, () if end == "fail" else end[:parts[1]]

    def told(self):
        return tuple(self.stand[file] for file in self.work.files), tuple(
            step for step in self.work.steps if step in self.left)

    def as_it_is(self):
        return self.work.text, self.crew, self.told()[0], self.ways


def chance_deed(chance, twin, share=0.6):
    """What can come next, by chance."""
    work = twin.work
    going = [step for step in work.steps if step in twin.left]
    idle = [step for step in work.steps if step not in twin.left]
    if going and chance.random() < share:
        step = chance.choice(going)
        word = chance.choice(["read_on", "read_on", "finish", "stop"])
        return (word, step) + ((chance.randrange(len(work.writes(step))),) if word == "stop" else ())
    if idle and chance.random() < share:
        return chance.choice(["make", "begin", "begin"]), chance.choice(idle)
    file = chance.choice(work.files)
    return "put", file, chance.randrange(slow.sizes(work)[file])


def chance_mill(chance, texts=WORKS):
    """(work, crew, stand) by chance."""
    work = Work(chance.choice(texts).rstrip("\n"))
    crew = tuple(chance.choice(slow.programs_of(work, step)) for step in work.steps)
    return work, crew, tuple(chance.randrange(size) for size in work.sizes)


class MillTest(unittest.TestCase):
    def test_by_hand(self):
        mill = Mill(WORK, (CUT, MIX), (1, 0, 2))
        self.assertEqual((mill.work, mill.stand, mill.under_way), (WORK, (1, 0, 2), ()))
        self.assertIsNone(mill.begin("mix"))
        self.assertIsNone(mill.begin("cut"))
        self.assertEqual(mill.under_way, ("cut", "mix"))
        self.assertEqual(mill.read_on("cut"), ("a", 1))
        self.assertIsNone(mill.put("b", 1))
        self.assertEqual(mill.finish("cut"), ((("b", 1),), (1,)))
        self.assertEqual((mill.stand, mill.under_way), ((1, 1, 1), ("mix",)))
        self.assertEqual(mill.read_on("mix"), ("c", 1))
        self.assertIsNone(mill.read_on("mix"))
        self.assertEqual(mill.make("cut"), ((("a", 1), ("b", 1)), (1,)))
        self.assertEqual(mill.stop("mix", 0), ((), ()))
        self.assertEqual((mill.stand, mill.under_way), ((1, 1, 1), ()))

    def test_beside_what_is_told(self):
        chance = random.Random(73)
        seen = set()
        for _ in range(400):
            work, crew, stand = chance_mill(chance)
            mill, twin = Mill(work, crew, stand), Twin(work, crew, stand)
            other, beside = None, None
            for _ in range(chance.randrange(14)):
                deed = chance_deed(chance, twin)
                told = getattr(mill, deed[0])(*deed[1:])
                self.assertEqual(told, twin.come(*deed))
                self.assertEqual((mill.stand, mill.under_way), twin.told())
                seen.add((deed[0], len(deed) > 2 and deed[2], told is None, told is not None and told[-1:]))
                if chance.random() < 0.2:
                    other, beside = mill.copy(), copy.deepcopy(twin)
                    self.assertTrue(other == mill)
                    self.assertEqual((other.work, other.stand, other.under_way), (work,) + twin.told())
                if other is not None and chance.random() < 0.6:
                    deed = chance_deed(chance, beside)
                    self.assertEqual(getattr(other, deed[0])(*deed[1:]), beside.come(*deed))
                    self.assertEqual((other.stand, other.under_way), beside.told())
                    self.assertEqual((mill.stand, mill.under_way), twin.told())
                    self.assertIs(mill == other, twin.as_it_is() == beside.as_it_is())
        self.assertIn(("read_on", False, True, False), seen)
        self.assertTrue({("stop", 0, False, ((),)), ("stop", 1, False, ((),)), ("stop", 1, False, ((0,),)),
                         ("finish", False, False, ("fail",)), ("make", False, False, ("fail",))} <= seen, seen)

    def test_equality(self):
        mill = Mill(WORK, (CUT, MIX), (0, 0, 0))
        self.assertEqual(mill, Mill(Work(MILL), (CUT, MIX), (0, 0, 0)))
        self.assertNotEqual(mill, Mill(WORK, (CUT, ("end", (0,))), (0, 0, 0)))
        self.assertNotEqual(mill, Mill(WORK, (CUT, MIX), (0, 0, 1)))
        self.assertNotEqual(mill, Mill(Work(MILL.replace("flat 1", "row 1")), (CUT, MIX), (0, 0, 0)))
        for value in ANY + [WORK, (CUT, MIX)]:
            self.assertFalse(mill == value)
            self.assertTrue(mill != value)
        one, other = mill.copy(), mill.copy()
        one.begin("cut")
        self.assertNotEqual(one, other)
        other.begin("cut")
        self.assertEqual(one, other)
        one.read_on("cut")
        self.assertNotEqual(one, other)
        other.put("a", 1)
        other.read_on("cut")
        other.put("a", 0)
        # The stands are the same, but they read unlike contents.
        self.assertEqual(one.stand, other.stand)
        self.assertNotEqual(one, other)
        # The sequence in which runs began does not count.
        one, other = mill.copy(), mill.copy()
        for twin, steps in ((one, ("cut", "mix")), (other, ("mix", "cut"))):
            for step in steps:
                twin.begin(step)
        self.assertEqual(one, other)

    def test_errors(self):
        for value in ANY + [(CUT,), (MIX, CUT), (CUT, MIX, MIX), [CUT, MIX], (CUT, ("fail",))]:
            self.assertIs(told_of(self, BadCrew, Mill, WORK, value, (0, 0, 9)), value)
        for value in ANY + [(0, 0), (0, 0, 3), (0, 0, True), [0, 0, 0], (0, 0, 0, 0)]:
            self.assertIs(told_of(self, BadStand, Mill, WORK, (CUT, MIX), value), value)
        mill = Mill(work=WORK, crew=(CUT, MIX), stand=(0, 0, 0))
        mill.begin("mix")
        ahead = mill.copy()
        for value in ANY + ["c ", "mix", "cut"]:
            self.assertIs(told_of(self, NoFile, mill.put, value, 9), value)
        for value in ANY + [2, -1, True]:
            if value.__class__ is not int or not 0 <= value < 2:
                self.assertIs(told_of(self, BadContent, mill.put, "a", value), value)
        for value in ANY + ["a", "mix "]:
            for call in (mill.make, mill.begin, mill.read_on, mill.finish, lambda step: mill.stop(step, -1)):
                self.assertIs(told_of(self, NoStep, call, value), value)
        for call in (mill.make, mill.begin):
            self.assertEqual(told_of(self, UnderWay, call, "mix"), "mix")
        for call in (mill.read_on, mill.finish, lambda step: mill.stop(step, -1)):
            self.assertEqual(told_of(self, NotUnderWay, call, "cut"), "cut")
        for value in ANY + [1, 2, -1, True, False]:
            if value.__class__ is not int or value != 0:
                self.assertIs(told_of(self, BadCount, mill.stop, "mix", value), value)
        self.assertEqual(mill, ahead)
        self.assertEqual((mill.stand, mill.under_way), (ahead.stand, ahead.under_way))

    def test_by_names(self):
        work = Work(YARD)
        crew = (("end", (1, 0)), ("read", "c", (("end", (0,)), ("end", (0,)))))
        mill = Mill(work=work, crew=crew, stand=(0, 0, 0, 0, 1))
        mill.put(file="b", content=2)
        self.assertEqual(mill.make(step="a"), ((), (1, 0)))
        mill.begin(step="a")
        self.assertEqual(mill.stop(step="a", many=1), ((), (1,)))
        mill.begin(step="glue")
        self.assertEqual(mill.read_on(step="glue"), ("c", 1))
        self.assertEqual(mill.finish(step="glue"), ((), (0,)))
        self.assertEqual(mill.stand, (0, 2, 1, 0, 0))
        # Two files are written: so 2 is too many.
        mill.begin("a")
        self.assertEqual(told_of(self, BadCount, mill.stop, "a", 2), 2)


if __name__ == "__main__":
    unittest.main()
