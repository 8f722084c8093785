"""Promise 13, its last part: worlds that no acts ever tell apart."""

import itertools
import random
import unittest

from stepsunread.errors import BadBook, BadLog, BadQuestion, NoWorld
from stepsunread.hiding import hidden, shows_hidden
from stepsunread.works import Work
from tests import acting, slow
from tests.chances import chance_question
from tests.samples import ANY, MILL, NO_BOOKS, told_of
from tests.test_acts import chance_room

WORK = Work(MILL)
# Nobody reads c.
ROW = Work("file a 2\nfile b 2\nfile c 2\nstep cut flat 1\n  reads a\n  writes b\n"
           "step mix tree 1\n  reads b\n  writes c")
BOOK = ((("set", "a", 0), ("run", "cut", (("a", 0),), (2,))),)
BAD = ((("set", "a", 0), ("saw", "a", 1)),)


def pairs_hidden(room, question):
    """All pairs of worlds that are never told apart and give unlike answers."""
    told = room.answers(question)
    return [(one, other) for one, other in itertools.combinations(room.worlds, 2)
            if told[one] != told[other] and not acting.apart(room.work, room.log, one, other, room.book)]


def is_closed(room, one, other, stands):
    """Whether at these stands all runs behind writings are alike, and lead to none but these stands."""
    for stand in stands:
        for _, row, step in acting.acts_of(room.work, True)[len(room.work.files):]:
            now = dict(slow.named(room.work, stand), **dict(zip(room.work.sources, row)))
            at = room.work.steps.index(step)
            told = slow.reference.run_down(one[0][at], now)
            if told != slow.reference.run_down(other[0][at], now):
                return False
            if told[1] != "fail":
                now.update(zip(room.work.writes(step), told[1]))
            if tuple(now[file] for file in room.work.files) not in stands:
                return False
    return True


class HiddenTest(unittest.TestCase):
    def test_by_hand(self):
        # What stood before it was written over is seen by no act.
        one, other, stands = hidden(WORK, BOOK, 0, ("stood", 0, 1, "c"))
        self.assertNotEqual(one[1], other[1])
        self.assertEqual(list(stands), sorted(set(stands)))
        self.assertIs(shows_hidden(WORK, BOOK, 0, ("stood", 0, 1, "c"), (one, other, stands)), True)
        for question in (("stood", 0, 1, "b"), ("does", "cut", (("a", 1),)), ("rests",), ("would", 0, "mix")):
            self.assertIsNone(hidden(WORK, BOOK, 0, question))
            self.assertIs(shows_hidden(WORK, BOOK, 0, question, None), True)
            self.assertIs(shows_hidden(WORK, BOOK, 0, question, (one, other, stands)), False)
        # A ring that rests: what it would do elsewhere is hidden.
        ring = Work("file x 2\nfile y 2\nstep p flat 1\n  reads x\n  writes y\n  claim ends\n"
                    "step q flat 1\n  reads y\n  writes x\n  claim ends")
        book = ((("run", "p", (("x", 0),), (0,)), ("run", "q", (("y", 0),), (0,))),)
        told = hidden(ring, book, 0, ("does", "p", (("x", 1),)))
        self.assertEqual(told[2], ((0, 0),))
        self.assertIs(shows_hidden(ring, book, 0, ("does", "p", (("x", 1),)), told), True)

    def test_against_all_worlds(self):
        chance = random.Random(72)
        seen = {True: 0, False: 0}
        for _ in range(300):
            work, book, log, room = chance_room(chance, 60)
            question = chance_question(chance, work, book)
            with self.subTest(text=work.text, book=book, log=log, question=question):
                found = pairs_hidden(room, question)
                told = hidden(work, book, log, question)
                seen[told is None] += 1
                self.assertEqual(told is None, not found)
                self.assertIs(shows_hidden(work, book, log, question, told), True)
                self.assertIs(shows_hidden(work, book, log, question, None), not found)
                if told is not None:
                    one, other, stands = told
                    self.assertTrue((one, other) in found or (other, one) in found)
                    self.assertTrue(is_closed(room, one, other, stands))
                    self.assertIn(acting.last(work, book, one, log), stands)
                    self.assertEqual(acting.last(work, book, one, log), acting.last(work, book, other, log))
                    self.spoil(chance, room, question, told, found)

    def spoil(self, chance, room, question, told, found):
        one, other, stands = told
        values = room.work, room.book, room.log, question
        everything = tuple(slow.stands_of(room.work))
        at = chance.randrange(len(stands))
        tries = [(other, one, stands), (one, other, everything), (one, one, stands),
                 (one, other, stands[:at] + stands[at + 1:]), (one, other, stands + stands[at:at + 1]),
                 (one, other, stands[::-1]), (one, other, list(stands)), [one, other, stands], (one, other),
                 (one, other, stands, ()), (chance.choice(room.worlds), other, stands),
                 (one, chance.choice(room.worlds), everything), (one, other, ()),
                 (one, other, tuple(sorted(set(stands) | {chance.choice(everything)}))),
                 (one, other, stands[:-1] + (stands[-1] + (0,),)), (one[:3] + ((0,),), other, stands), (one, None, stands)]
        for value in tries:
            self.assertIs(shows_hidden(*values, value), self.is_so(room, question, value), value)

    def is_so(self, room, question, value):
        if not isinstance(value, tuple) or len(value) != 3:
            return False
        one, other, stands = value
        if one not in room.worlds or other not in room.worlds or not isinstance(stands, tuple):
            return False
        told = room.answers(question)
        return (told[one] != told[other] and list(stands) == sorted(set(stands))
                and all(len(stand) == len(room.work.files) for stand in stands)
                and acting.last(room.work, room.book, one, room.log) == acting.last(room.work, room.book, other, room.log)
                and acting.last(room.work, room.book, one, room.log) in stands
                and is_closed(room, one, other, stands))


class UnlikeEndsTest(unittest.TestCase):
    """Looks tell worlds apart in which the log ends unlike, even if all that is run goes alike."""

    EVERY = tuple(itertools.product(range(2), repeat=3))

    def look_at(self, book, question, ends, told):
        """Two worlds that end the log at these stands, all else being alike: told is whether they are hidden."""
        # By these crews a run brings b to 0 and leaves c; they are unlike where b is 1, to which nothing leads.
        one, other = [(("end", (0,)), ("read", "b", (("fail",), end))) for end in (("fail",), ("end", (1,)))]
        hands = tuple([tuple([0 for event in log if event[0] == "set"]) for log in book])
        for crews in ((one, other), (one, one), (other, other)):
            pair = [(crew, (end,), hands, ((),)) for crew, end in zip(crews, ends)]
            near = tuple(sorted({(a, 0, end[2]) for a in range(2) for end in ends}))
            is_unlike = len({slow.answer(ROW, book, world, question) for world in pair}) == 2
            with self.subTest(ends=ends, question=question, pair=pair):
                for world, last in ((pair, near), (pair[::-1], near)):
                    self.assertIs(shows_hidden(ROW, book, 0, question, (*world, last)), told and is_unlike)
                # These are more stands than needed: with unlike crews runs are not alike at all of them.
                is_fine = told and is_unlike and crews[0] == crews[1]
                self.assertIs(shows_hidden(ROW, book, 0, question, (*pair, self.EVERY)), is_fine)
                more = tuple(sorted(set(near) | {(a, 0, c) for a in range(2) for c in range(2)}))
                self.assertIs(shows_hidden(ROW, book, 0, question, (*pair, more)), told and is_unlike)

    def test_a_file_that_nobody_reads(self):
        for question in (("stood", 0, 0, "c"), ("does", "mix", (("b", 1),)), ("uses", "mix", "b")):
            self.look_at(((),), question, ((0, 0, 0), (0, 0, 1)), False)
            self.look_at(((),), question, ((1, 0, 1), (1, 0, 0)), False)
            self.look_at(((),), question, ((1, 0, 1), (1, 0, 1)), True)

    def test_a_source(self):
        for question in (("stood", 0, 0, "a"), ("does", "mix", (("b", 1),)), ("run", "mix", (0, 1, 0))):
            self.look_at(((),), question, ((0, 0, 0), (1, 0, 0)), False)
            self.look_at(((),), question, ((1, 0, 1), (0, 0, 1)), False)
            self.look_at(((),), question, ((0, 0, 1), (0, 0, 1)), True)
        # Each probe writes the source, so no run goes otherwise; a look alone tells the worlds apart.
        hand = ((("set", "a", None),),)
        crew = (("end", (0,)), ("end", (0,)))
        pair = [(crew, ((0, 0, 0),), ((content,),), ((),)) for content in (0, 1)]
        self.assertIs(shows_hidden(ROW, hand, 0, ("stood", 0, 1, "a"), (*pair, self.EVERY)), False)

    def test_what_was_written_over(self):
        # As soon as a hand wrote the same over what stood unlike, nothing tells the worlds apart.
        for file, ends in (("a", ((0, 0, 0), (1, 0, 0))), ("c", ((1, 0, 0), (1, 0, 1)))):
            question = ("stood", 0, 0, file)
            self.look_at(((("set", file, 0),),), question, ends, True)
            self.look_at(((("set", "b", 0),),), question, ends, False)

    def test_hidden_tells_none(self):
        for question in (("stood", 0, 0, "a"), ("stood", 0, 0, "c"), ("would", 0, "mix")):
            self.assertIsNone(hidden(ROW, ((),), 0, question))
            self.assertIs(shows_hidden(ROW, ((),), 0, question, None), True)
        for book, file in ((((("set", "a", 0),),), "a"), (((("set", "c", 1),),), "c")):
            one, other, stands = hidden(ROW, book, 0, ("stood", 0, 0, file))
            lasts = [acting.last(ROW, book, world, 0) for world in (one, other)]
            self.assertEqual(lasts[0], lasts[1])
            self.assertIn(lasts[0], stands)
            self.assertNotEqual(one[1], other[1])

    def test_by_chance(self):
        chance = random.Random(171)
        many = 0
        for _ in range(150):
            work, book, log, room = chance_room(chance, 60)
            question = chance_question(chance, work, book)
            told = room.answers(question)
            lasts = {world: acting.last(work, book, world, log) for world in room.worlds}
            pairs = [(one, other) for one, other in itertools.permutations(room.worlds, 2)
                     if told[one] != told[other] and lasts[one] != lasts[other]]
            for one, other in chance.sample(pairs, min(len(pairs), 6)):
                near = acting.closure(work, one[0], lasts[one]) | acting.closure(work, other[0], lasts[other])
                for stands in (tuple(sorted(near)), tuple(slow.stands_of(work))):
                    many += is_closed(room, one, other, stands)
                    with self.subTest(text=work.text, book=book, log=log, question=question, one=one, other=other):
                        self.assertIs(shows_hidden(work, book, log, question, (one, other, stands)), False)
        # But for their ends so many of them would be taken.
        self.assertGreater(many, 100)


class WrongTest(unittest.TestCase):
    def test_errors(self):
        question = ("rests",)
        for call in (hidden, lambda *told: shows_hidden(*told, None)):
            for value in NO_BOOKS:
                self.assertIs(told_of(self, BadBook, call, WORK, value, 0, question), value)
            for value in ANY:
                if value.__class__ is not int or value != 0:
                    self.assertIs(told_of(self, BadLog, call, WORK, BOOK, value, question), value)
                self.assertIs(told_of(self, BadQuestion, call, WORK, BOOK, 0, value), value)
            for book, log in [(((), (("beside", 0),)), 0), (((), (("beside", 0),)), 1), (((), (("after", 0),)), 0),
                              (((("begin", "cut"),),), 0)]:
                self.assertIs(told_of(self, BadLog, call, WORK, book, log, question), log)
            self.assertEqual(told_of(self, BadBook, call, WORK, (), 5, None), ())
            self.assertEqual(told_of(self, BadLog, call, WORK, BAD, 5, None), 5)
            self.assertIsNone(told_of(self, BadQuestion, call, WORK, BAD, 0, None))
            self.assertIsNone(told_of(self, NoWorld, call, WORK, BAD, 0, question))

    def test_values_of_any_kind(self):
        question = ("stood", 0, 1, "c")
        one, other, stands = hidden(WORK, BOOK, 0, question)
        for value in ANY:
            if value is not None:
                self.assertIs(shows_hidden(WORK, BOOK, 0, question, value), False)
            for told in ((value, other, stands), (one, value, stands), (one, other, value), (one, other, (value,)),
                         (one, other, ((value, 0, 0),)), (one[:1] + (value,) + one[2:], other, stands)):
                self.assertIs(shows_hidden(WORK, BOOK, 0, question, told), False)
        self.assertIs(shows_hidden(WORK, BOOK, 0, question, None), False)
        bools = tuple((bool(stand[0]),) + stand[1:] if stand[0] < 2 else stand for stand in stands)
        self.assertIs(shows_hidden(WORK, BOOK, 0, question, (one, other, bools)), False)

    def test_by_names(self):
        told = hidden(work=WORK, book=BOOK, log=0, question=("rests",))
        self.assertIs(shows_hidden(work=WORK, book=BOOK, log=0, question=("rests",), value=told), True)
        self.assertEqual(hidden(Work(MILL), BOOK, 0, ("stood", 0, 1, "c")), hidden(WORK, BOOK, 0, ("stood", 0, 1, "c")))


if __name__ == "__main__":
    unittest.main()
