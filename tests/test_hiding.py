"""Promise 13, its last part: worlds that no acts ever tell apart."""

import itertools
import random
import unittest

from stepsunread.errors import BadBook, BadLog, BadQuestion, NoWorld
from stepsunread.hiding import hidden, shows_hidden
from stepsunread.works import Work
from tests import acting, slow
from tests.chances import chance_question
from tests.samples import ANY, MILL, NO_BOOKS, told_of
from tests.test_acts import chance_room

WORK = Work(MILL)
BOOK = ((("set", "a", 0), ("run", "cut", (("a", 0),), (2,))),)
BAD = ((("set", "a", 0), ("saw", "a", 1)),)


def pairs_hidden(room, question):
    """All pairs of worlds that are never told apart and give unlike answers."""
    told = room.answers(question)
    return [(one, other) for one, other in itertools.combinations(room.worlds, 2)
            if told[one] != told[other] and not acting.apart(room.work, room.log, one, other, room.book)]


def is_closed(room, one, other, stands):
    """Whether at these stands all runs behind writings are alike, and lead to none but these stands."""
    for stand in stands:
        for _, row, step in acting.acts_of(room.work, True)[len(room.work.files):]:
            now = dict(slow.named(room.work, stand), **dict(zip(room.work.sources, row)))
            at = room.work.steps.index(step)
            told = slow.reference.run_down(one[0][at], now)
            if told != slow.reference.run_down(other[0][at], now):
                return False
            if told[1] != "fail":
                now.update(zip(room.work.writes(step), told[1]))
            if tuple(now[file] for file in room.work.files) not in stands:
                return False
    return True


class HiddenTest(unittest.TestCase):
    def test_by_hand(self):
        # What stood before it was written over is seen by no act.
        one, other, stands = hidden(WORK, BOOK, 0, ("stood", 0, 1, "c"))
        self.assertNotEqual(one[1], other[1])
        self.assertEqual(list(stands), sorted(set(stands)))
        self.assertIs(shows_hidden(WORK, BOOK, 0, ("stood", 0, 1, "c"), (one, other, stands)), True)
        for question in (("stood", 0, 1, "b"), ("does", "cut", (("a", 1),)), ("rests",), ("would", 0, "mix")):
            self.assertIsNone(hidden(WORK, BOOK, 0, question))
            self.assertIs(shows_hidden(WORK, BOOK, 0, question, None), True)
            self.assertIs(shows_hidden(WORK, BOOK, 0, question, (one, other, stands)), False)
        # A ring that rests: what it would do elsewhere is hidden.
        ring = Work("file x 2\nfile y 2\nstep p flat 1\n  reads x\n  writes y\n  claim ends\n"
                    "step q flat 1\n  reads y\n  writes x\n  claim ends")
        book = ((("run", "p", (("x", 0),), (0,)), ("run", "q", (("y", 0),), (0,))),)
        told = hidden(ring, book, 0, ("does", "p", (("x", 1),)))
        self.assertEqual(told[2], ((0, 0),))
        self.assertIs(shows_hidden(ring, book, 0, ("does", "p", (("x", 1),)), told), True)

    def test_against_all_worlds(self):
        chance = random.Random(72)
        seen = {True: 0, False: 0}
        for _ in range(300):
            work, book, log, room = chance_room(chance, 60)
            question = chance_question(chance, work, book)
            with self.subTest(text=work.text, book=book, log=log, question=question):
                found = pairs_hidden(room, question)
                told = hidden(work, book, log, question)
                seen[told is None] += 1
                self.assertEqual(told is None, not found)
                self.assertIs(shows_hidden(work, book, log, question, told), True)
                self.assertIs(shows_hidden(work, book, log, question, None), not found)
                if told is not None:
                    one, other, stands = told
                    self.assertTrue((one, other) in found or (other, one) in found)
                    self.assertTrue(is_closed(room, one, other, stands))
                    self.assertIn(acting.last(work, book, one, log), stands)
                    self.spoil(chance, room, question, told, found)

    def spoil(self, chance, room, question, told, found):
        one, other, stands = told
        values = room.work, room.book, room.log, question
        everything = tuple(slow.stands_of(room.work))
        at = chance.randrange(len(stands))
        tries = [(other, one, stands), (one, other, everything), (one, one, stands),
                 (one, other, stands[:at] + stands[at + 1:]), (one, other, stands + stands[at:at + 1]),
                 (one, other, stands[::-1]), (one, other, list(stands)), [one, other, stands], (one, other),
                 (one, other, stands, ()), (chance.choice(room.worlds), other, stands),
                 (one, chance.choice(room.worlds), everything), (one, other, ()),
                 (one, other, tuple(sorted(set(stands) | {chance.choice(everything)}))),
                 (one, other, stands[:-1] + (stands[-1] + (0,),)), (one[:3] + ((0,),), other, stands), (one, None, stands)]
        for value in tries:
            self.assertIs(shows_hidden(*values, value), self.is_so(room, question, value), value)

    def is_so(self, room, question, value):
        if not isinstance(value, tuple) or len(value) != 3:
            return False
        one, other, stands = value
        if one not in room.worlds or other not in room.worlds or not isinstance(stands, tuple):
            return False
        told = room.answers(question)
        return (told[one] != told[other] and list(stands) == sorted(set(stands))
                and all(len(stand) == len(room.work.files) for stand in stands)
                and all(acting.last(room.work, room.book, world, room.log) in stands for world in (one, other))
                and is_closed(room, one, other, stands))


class WrongTest(unittest.TestCase):
    def test_errors(self):
        question = ("rests",)
        for call in (hidden, lambda *told: shows_hidden(*told, None)):
            for value in NO_BOOKS:
                self.assertIs(told_of(self, BadBook, call, WORK, value, 0, question), value)
            for value in ANY:
                if value.__class__ is not int or value != 0:
                    self.assertIs(told_of(self, BadLog, call, WORK, BOOK, value, question), value)
                self.assertIs(told_of(self, BadQuestion, call, WORK, BOOK, 0, value), value)
            for book, log in [(((), (("beside", 0),)), 0), (((), (("beside", 0),)), 1), (((), (("after", 0),)), 0),
                              (((("begin", "cut"),),), 0)]:
                self.assertIs(told_of(self, BadLog, call, WORK, book, log, question), log)
            self.assertEqual(told_of(self, BadBook, call, WORK, (), 5, None), ())
            self.assertEqual(told_of(self, BadLog, call, WORK, BAD, 5, None), 5)
            self.assertIsNone(told_of(self, BadQuestion, call, WORK, BAD, 0, None))
            self.assertIsNone(told_of(self, NoWorld, call, WORK, BAD, 0, question))

    def test_values_of_any_kind(self):
        question = ("stood", 0, 1, "c")
        one, other, stands = hidden(WORK, BOOK, 0, question)
        for value in ANY:
            if value is not None:
                self.assertIs(shows_hidden(WORK, BOOK, 0, question, value), False)
            for told in ((value, other, stands), (one, value, stands), (one, other, value), (one, other, (value,)),
                         (one, other, ((value, 0, 0),)), (one[:1] + (value,) + one[2:], other, stands)):
                self.assertIs(shows_hidden(WORK, BOOK, 0, question, told), False)
        self.assertIs(shows_hidden(WORK, BOOK, 0, question, None), False)
        bools = tuple((bool(stand[0]),) + stand[1:] if stand[0] < 2 else stand for stand in stands)
        self.assertIs(shows_hidden(WORK, BOOK, 0, question, (one, other, bools)), False)

    def test_by_names(self):
        told = hidden(work=WORK, book=BOOK, log=0, question=("rests",))
        self.assertIs(shows_hidden(work=WORK, book=BOOK, log=0, question=("rests",), value=told), True)
        self.assertEqual(hidden(Work(MILL), BOOK, 0, ("stood", 0, 1, "c")), hidden(WORK, BOOK, 0, ("stood", 0, 1, "c")))


if __name__ == "__main__":
    unittest.main()
