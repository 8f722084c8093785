"""Promise 7: worlds, what of a book is not as noted in them, and how files stand."""

import itertools
import random
import unittest

from stepsunread.errors import BadBook, BadWorld
from stepsunread.works import Work
from stepsunread.worlds import fits, is_world, misfits, stands
from tests import reference
from tests.samples import ANY, MILL, YARD, told_of
from tests.stories import Story, blotted, chance_links

CUT = ("read", "a", (("end", (2,)), ("read", "b", (("end", (0,)), ("fail",)))))
MIX = ("read", "c", (("end", (0,)), ("end", (1,)), ("end", (1,))))
CREW = (CUT, MIX)
# two reads a and b, and writes c and d; back reads c and d, and writes b.
PAIRED = (
    "file a 2\nfile b 2\nfile c 2\nfile d 2\nstep two tree 2\n  reads a b\n  writes c d\n"
    "step back row 1\n  reads d c\n  writes b"
)
TWO = ("read", "a", (("end", (1, 0)), ("read", "b", (("end", (0, 1)), ("fail",)))))
BACK = ("read", "d", (("end", (1,)), ("end", (0,))))
TWOS = reference.all_programs(PAIRED, "two")
BACKS = reference.all_programs(PAIRED, "back")


def told(book, first=(0, 0, 0), hands=((),), crew=CREW):
    """The misfits of a one log book of the mill."""
    return misfits(Work(MILL), book, (crew, (first,), hands, ((),)))


class IsWorldTest(unittest.TestCase):
    def check(self, book, good, bad, text=MILL):
        work = Work(text)
        for world in good:
            self.assertIs(is_world(work, book, world), True, world)
        for world in bad:
            self.assertIs(is_world(work, book, world), False, world)
            self.assertIs(told_of(self, BadWorld, misfits, work, book, world), world)
            self.assertIs(told_of(self, BadWorld, fits, work, book, world), world)
            self.assertIs(told_of(self, BadWorld, stands, work, book, world), world)

    def test_one_log(self):
        book = ((("set", "a", 0), ("saw", "c", 0), ("set", "c", None)),)
        good = (CREW, ((0, 1, 2),), ((0, 2),), ((),))
        more = [(CREW, ((1, 1, 2),), ((1, 0),), ((),)), ((("fail",), ("end", (0,))), ((0, 0, 0),), ((0, 2),), ((),))]
        bad = [
            good[:3], good + ((),), list(good), (list(CREW),) + good[1:], ((CUT,),) + good[1:], ((MIX, CUT),) + good[1:],
            ((CUT, MIX, MIX),) + good[1:], ((CUT, ("fail",)),) + good[1:], ((CUT, None),) + good[1:], (None,) + good[1:],
            (CREW, ()) + good[2:], (CREW, ((),)) + good[2:], (CREW, (0, 1, 2)) + good[2:],
            (CREW, [(0, 1, 2)]) + good[2:], (CREW, ([0, 1, 2],)) + good[2:], (CREW, ((0, 1, 3),)) + good[2:],
            (CREW, ((0, 1, 2), ())) + good[2:], (CREW, ((0, 1, 2), (0, 1, 2))) + good[2:], (CREW, ((False, 1, 2),)) + good[2:],
            (CREW, ((0, 1),)) + good[2:], (CREW, ((0, 1, None),)) + good[2:],
            good[:2] + (((0,),), ((),)), good[:2] + (((0, 2, 0),), ((),)), good[:2] + (((2, 0),), ((),)),
            good[:2] + (((0, 3),), ((),)), good[:2] + (([0, 2],), ((),)), good[:2] + (((False, 2),), ((),)),
            good[:2] + (((0, None),), ((),)), good[:2] + ((0, 2), ((),)), good[:2] + ((), ((),)), good[:2] + (((),), ((),)),
            good[:2] + (((0, 2), ()), ((),)), good[:3] + ((),), good[:3] + (((), ()),), good[:3] + (((1,),),),
            good[:3] + ([()],), good[:3] + (([],),), good[:3] + ((None,),), good[:3] + (None,), {}, good[0]]
        self.check(book, [good] + more, bad + ANY)
        self.assertIs(is_world(value=good, book=book, work=Work(MILL)), True)

    def test_programs_keep_claims(self):
        bad = [((CUT, ("read", "c", (("end", (0,)), ("fail",), ("end", (0,))))), ((0, 0, 0),), ((),), ((),))]
        self.check(((),), [(CREW, ((0, 0, 0),), ((),), ((),))], bad)

    def test_after(self):
        book = ((("set", "a", 0),), (("after", 0), ("set", "b", None)), (("after", 1),))
        first = (0, 0, 0)
        hands, weaves = ((1,), (0,), ()), ((), (), ())
        good = (CREW, (first, (), ()), hands, weaves)
        bad = [
            (CREW, (first, first, ()), hands, weaves), (CREW, (first, (), first), hands, weaves),
            (CREW, ((), (), ()), hands, weaves), (CREW, (first, [], ()), hands, weaves),
            (CREW, (first, None, ()), hands, weaves), (CREW, (first, ()), hands, weaves), (CREW, (first,), hands, weaves),
            good[:2] + (((1,), (), (0,)), weaves), good[:2] + (((1,), (0,)), weaves), good[:3] + (((), ()),),
            good[:3] + (((), (1,), ()),), good[:3] + (((1,), (), ()),)]
        self.check(book, [good], bad)

    def test_beside(self):
        one = (("set", "a", 0), ("begin", "cut"), ("reads", "cut", ()), ("end", "cut", None))
        other = (("beside", 0), ("saw", "a", 0), ("run", "cut", (None,), None))
        first = (0, 0, 0)
        head = (CREW, (first, ()), ((0,), ()))
        weaves = [row for row in itertools.product((0, 1), repeat=6)]
        fair = reference.weavings(other[1:], one)
        # The run comes ahead of the set, of the begin, or behind the end; the saw at each place ahead of it.
        self.assertEqual(len(fair), 1 + 2 + 5)
        good = [head + (((), row),) for row in weaves if row in fair]
        bad = [head + (((), row),) for row in weaves if row not in fair]
        row = fair[0]
        bad += [
            head + ((row, ()),), head + ((row, row),), head + ((row,),), head + (((), ()),), head + (((), row[:-1]),),
            head + (((), row + (0,)),), head + (((), row + (1,)),), head + (((), list(row)),), head + (((), None),),
            head + (((), tuple(bool(item) for item in row)),), head + (((), row[:-1] + (2,)),),
            head + (((), row[:-1] + (None,)),), (CREW, (first, first)) + head[2:] + (((), row),),
            (CREW, ((), first)) + head[2:] + (((), row),), head[:2] + (((), (0,)), ((), row))]
        self.check((one, other), good, bad)

    def test_weavings_of_other_numbers(self):
        book = ((("saw", "a", 0),), (("beside", 0), ("saw", "a", 0), ("saw", "b", 0)))
        head = (CREW, ((0, 0, 0), ()), ((), ()))
        good = [head + (((), row),) for row in ((0, 1, 1), (1, 0, 1), (1, 1, 0))]
        bad = [head + (((), row),) for row in itertools.product((-1, 0, 1, 2), repeat=3) if sorted(row) != [0, 1, 1]]
        self.check(book, good, bad)

    def test_events_of_a_file_called_like_a_step(self):
        book = ((("begin", "a"), ("end", "a", None)), (("beside", 0), ("set", "a", 0), ("saw", "a", 0)))
        crew = ("fail",), ("read", "c", (("end", (1,)), ("end", (0,))))
        head = (crew, ((0, 0, 0, 0, 0), ()), ((), (0,)))
        good = [head + (((), row),) for row in set(itertools.permutations((0, 0, 1, 1)))]
        self.check(book, good, [head + (((), (0, 1, 1)),)], YARD)

    def test_beside_a_log_with_after(self):
        book = ((("set", "a", 0),), (("after", 0), ("saw", "a", 0)), (("beside", 1), ("saw", "b", 0)))
        head = (CREW, ((0, 0, 0), (), ()), ((0,), (), ()))
        good = [head + (((), (), (0, 1)),), head + (((), (), (1, 0)),)]
        bad = [head + (((), (), row),) for row in ((), (0,), (1,), (1, 1), (0, 0), (0, 0, 1), (0, 1, 0), (1, 0, 1))]
        self.check(book, good, bad + [head + (((), (0, 1), ()),)])

    def test_bad_books_come_first(self):
        work = Work(MILL)
        for book in [value for value in ANY if value != ((), ())] + [((),) * 4, (("set", "a", 0),), [()]]:
            for call in (is_world, misfits, fits, stands):
                self.assertIs(told_of(self, BadBook, call, work, book, None), book)
                self.assertIs(told_of(self, BadBook, call, work, book, (CREW, ((0, 0, 0),), ((),), ((),))), book)


class MisfitsTest(unittest.TestCase):
    def test_sets_and_saws(self):
        book = ((("set", "a", 1), ("saw", "a", 1), ("saw", "a", 0), ("set", "b", None), ("saw", "b", 1), ("saw", "c", None)),)
        self.assertEqual(told(book, hands=((1, 1),)), ((0, 2),))
        self.assertEqual(told(book, hands=((0, 0),)), ((0, 0), (0, 1), (0, 4)))
        self.assertEqual(told(((),)), ())

    def test_whole_runs(self):
        read_a, both = (("a", 0),), (("a", 1), ("b", 0))
        cases = [
            ((0, 0, 0), read_a, (2,), True), ((0, 0, 0), read_a, (1,), False), ((0, 0, 0), read_a, "fail", False),
            ((0, 0, 0), read_a, None, True), ((0, 0, 0), read_a, (None,), True), ((0, 0, 0), (), None, False),
            ((0, 0, 0), (("a", 1),), None, False), ((0, 0, 0), (("b", 0),), None, False), ((0, 0, 0), (("a", None),), None, True),
            ((0, 0, 0), ((None, 0),), None, True), ((0, 0, 0), ((None, 1),), None, False),
            ((0, 0, 0), ((None, None),), None, True), ((0, 0, 0), read_a + ((None, None),), None, False),
            ((1, 0, 0), both, (0,), True), ((1, 0, 0), both[:1], (0,), False), ((1, 0, 0), both[::-1], (0,), False),
            ((1, 0, 0), ((None, 1), ("b", None)), (0,), True), ((1, 0, 0), ((None, 0), ("b", None)), (0,), False),
            ((1, 1, 0), (("a", 1), ("b", 1)), "fail", True), ((1, 1, 0), (None,), (None,), False),
            ((1, 1, 0), (None,), (0,), False), ((1, 1, 0), (None,), None, True), ((1, 0, 0), (None,), "fail", False),
            ((1, 0, 0), (None,), (0,), True), ((0, 0, 0), (None,), (2,), True), ((1, 0, 0), (None, ("b", 0)), None, True),
            ((1, 0, 0), (None, ("b", 1)), None, False), ((1, 0, 0), (None, ("a", 1)), None, False),
            ((1, 0, 0), (("a", 1), None), None, True), ((0, 0, 0), (("a", 0), None), None, True),
            ((1, 0, 0), (("b", 0), None), None, False), ((1, 0, 0), (("a", 1), None, ("b", 0)), None, True),
            ((0, 0, 0), (("a", 0), None, ("b", 0)), None, False), ((1, 0, 0), (None, None), None, True),
            ((1, 0, 0), (None, ("a", 1), None), None, True), ((1, 0, 0), (None, ("b", 0), None), None, True),
            ((1, 0, 0), (None, (None, 0), None), None, True), ((0, 0, 0), (None, (None, 1), None), None, False),
            ((1, 0, 0), (None, ("a", None), None, ("b", None)), None, True), ((0, 0, 0), (None, None, None, None), None, True),
            ((0, 0, 0), (None, ("a", None), None, ("b", None)), None, False), ((1, 0, 0), ((None, None),) * 3, None, False)]
        for first, reads, end, is_noted in cases:
            book = ((("run", "cut", reads, end),),)
            self.assertEqual(told(book, first), () if is_noted else ((0, 0),), (first, reads, end))
        crew = (("fail",), ("end", (1,)))
        self.assertEqual(told(((("run", "cut", (), "fail"), ("run", "mix", (None,), (1,))),), crew=crew), ())
        self.assertEqual(told(((("run", "cut", (None,), (None,)), ("run", "mix", (("c", 0),), (1,))),), crew=crew),
                         ((0, 0), (0, 1)))

    def test_runs_that_read_on(self):
        begin = ("begin", "cut")
        cases = [
            ((("reads", "cut", (("a", 1),)), ("reads", "cut", (("b", 0),)), ("end", "cut", (0,))), ()),
            ((("reads", "cut", (("a", 1), ("b", 0))), ("end", "cut", (0,))), ()),
            ((("reads", "cut", ((None, 1), (None, None))), ("end", "cut", None)), ()),
            ((("reads", "cut", ()), ("reads", "cut", (("a", 1),))), ()),
            ((("end", "cut", (0,)),), (1,)), ((("reads", "cut", (("a", 1),)), ("end", "cut", (0,))), (2,)),
            ((("reads", "cut", (("a", 0),)), ("reads", "cut", (("b", 0),)), ("end", "cut", (0,))), (1,)),
            ((("reads", "cut", (("b", 1),)), ("end", "cut", (0,))), (1, 2)),
            ((("reads", "cut", (("a", 1), ("b", 0), (None, None))), ("end", "cut", (0,))), (1,)),
            ((("reads", "cut", (("a", 1), ("b", 0))), ("reads", "cut", ((None, None),)), ("end", "cut", (0,))), (2,)),
            ((("reads", "cut", (("a", 1), ("b", 0))), ("reads", "cut", ()), ("end", "cut", (1,))), (3,)),
            ((("reads", "cut", (("a", 1), ("b", 0))), ("end", "cut", "fail")), (2,)),
            ((("reads", "cut", (("a", 1), ("b", 0))), ("end", "cut", (None,))), ()),
            ((("break", "cut", ()), ("saw", "c", 1)), ()), ((("reads", "cut", (("a", 1),)), ("break", "cut", ())), ()),
            ((("reads", "cut", (("a", 1), ("b", 0), ("b", 0))), ("break", "cut", ()), ("saw", "c", 1)), (1,)),
            ((), ()), ((("end", "cut", None), ("saw", "c", 0)), (1,))]
        for events, wrong in cases:
            self.assertEqual(told(((begin,) + events,), (1, 0, 1)), tuple((0, event) for event in wrong), events)

    def test_what_is_read_stands_so_at_that_moment(self):
        log = (("begin", "cut"), ("reads", "cut", (("a", 1),)), ("set", "a", 0), ("run", "mix", (("c", 2),), (1,)),
               ("saw", "b", 1), ("set", "b", None), ("reads", "cut", (("b", 0),)), ("set", "b", 1), ("end", "cut", (0,)))
        self.assertEqual(told((log,), (1, 0, 2), ((0, 0, 1),)), ())
        self.assertEqual(told((log,), (1, 0, 2), ((0, 1, 1),)), ((0, 6), (0, 8)))
        work = Work(MILL)
        row = stands(work, (log,), (CREW, ((1, 0, 2),), ((0, 0, 1),), ((),)))
        self.assertEqual(row, (((1, 0, 2),) * 3 + ((0, 0, 2), (0, 1, 2), (0, 1, 2), (0, 0, 2), (0, 0, 2), (0, 1, 2), (0, 1, 0)),))

    def test_runs_of_two_files(self):
        work = Work(PAIRED)
        begin, both = ("begin", "two"), ("reads", "two", ((None, None), (None, None)))
        cases = [
            ((0, 1, 0, 0), (("run", "two", (("a", 0),), (1, 0)),), (), (0, 1, 1, 0)),
            ((0, 1, 0, 0), (("run", "two", (("a", 0),), (None, 1)),), (0,), (0, 1, 1, 0)),
            ((0, 1, 0, 0), (("run", "two", (("a", 0),), (None, 0)),), (), (0, 1, 1, 0)),
            ((1, 1, 0, 0), (("run", "two", (None,), (None, None)),), (0,), (1, 1, 0, 0)),
            ((1, 0, 1, 0), (begin, both, ("break", "two", (0,))), (), (1, 0, 0, 0)),
            ((1, 0, 1, 0), (begin, both, ("break", "two", (None,))), (), (1, 0, 0, 0)),
            ((1, 0, 1, 0), (begin, both, ("break", "two", (1,))), (2,), (1, 0, 0, 0)),
            ((1, 0, 1, 0), (begin, ("break", "two", (0,))), (1,), (1, 0, 0, 0)),
            ((1, 0, 1, 0), (begin, both, ("break", "two", ())), (), (1, 0, 1, 0)),
            ((1, 1, 1, 0), (begin, both, ("break", "two", (None,))), (2,), (1, 1, 1, 0)),
            ((1, 1, 1, 0), (begin, both, ("end", "two", "fail")), (), (1, 1, 1, 0)),
            ((1, 1, 1, 0), (begin, both, ("end", "two", (None, None))), (2,), (1, 1, 1, 0)),
            ((1, 0, 1, 0), (begin, both, ("end", "two", (0, None))), (), (1, 0, 0, 1)),
            ((1, 0, 1, 0), (begin, both, ("end", "two", (1, None))), (2,), (1, 0, 0, 1)),
            ((1, 0, 1, 0), (begin, ("end", "two", (0, 1))), (1,), (1, 0, 0, 1))]
        for first, log, wrong, last in cases:
            world = ((TWO, BACK), (first,), ((),), ((),))
            self.assertEqual(misfits(work, (log,), world), tuple((0, event) for event in wrong), log)
            self.assertIs(fits(work, (log,), world), wrong == ())
            self.assertEqual(stands(work, (log,), world)[0][-1], last)

    def test_after(self):
        work = Work(MILL)
        book = ((("set", "a", 1), ("begin", "cut"), ("reads", "cut", (("a", 1),))),
                (("after", 0), ("saw", "a", 1), ("run", "cut", (("a", 1), ("b", 0)), (0,))), (("after", 1), ("saw", "c", 2)))
        world = (CREW, ((0, 0, 2), (), ()), ((1,), (), ()), ((), (), ()))
        self.assertEqual(misfits(work, book, world), ((2, 1),))
        self.assertEqual(stands(work, book, world), (
            ((0, 0, 2),) + ((1, 0, 2),) * 3, ((1, 0, 2),) * 3 + ((1, 0, 0),), ((1, 0, 0),) * 3))
        again = ((("begin", "cut"),), (("after", 0), ("begin", "cut"), ("end", "cut", None)), (("after", 0), ("saw", "c", 0)))
        world = (CREW, ((0, 0, 1), (), ()), ((), (), ()), ((), (), ()))
        self.assertEqual(misfits(work, again, world), ((1, 2), (2, 1)))
        self.assertEqual(stands(work, again, world)[1:], (((0, 0, 1),) * 3 + ((0, 0, 2),), ((0, 0, 1),) * 3))

    def test_pairs_in_each_weaving(self):
        work = Work(MILL)
        one = (("set", "a", 1), ("begin", "cut"), ("reads", "cut", ((None, None),)))
        other = (("beside", 0), ("set", "a", 0), ("saw", "a", 0))
        book = (one, other, (("after", 0), ("saw", "a", 1)), )
        for weave in itertools.permutations((1, 1, 0, 0, 0)):
            world = (CREW, ((0, 0, 0), (), ()), ((1,), (0,), ()), ((), weave, ()))
            own = [k for k, item in enumerate(weave) if item == 0][0]
            sets = [k for k, item in enumerate(weave) if item == 1]
            wrong = ((1, 2),) if sets[0] < own < sets[1] else ()
            wrong += ((2, 1),) if own < sets[0] else ()
            self.assertEqual(misfits(work, book, world), wrong, weave)
            rows = stands(work, book, world)
            self.assertEqual([len(row) for row in rows], [4, 4, 3])
            self.assertEqual(rows[1][:2], ((0, 0, 0),) * 2)
            self.assertEqual(rows[2], ((int(own > sets[0]), 0, 0),) * 3)

    def test_runs_of_both_logs_of_a_pair(self):
        work = Work(MILL)
        one = (("begin", "cut"), ("reads", "cut", (("a", 0),)), ("end", "cut", (2,)))
        other = (("beside", 0), ("begin", "mix"), ("reads", "mix", (("c", 2),)), ("end", "mix", (1,)), ("run", "cut", (None,), None))
        world = (CREW, ((0, 0, 0), ()), ((), ()), ((), (0, 0, 1, 0, 1, 1, 1)))
        self.assertEqual(misfits(work, (one, other), world), ())
        world = (CREW, ((0, 0, 0), ()), ((), ()), ((), (0, 0, 1, 1, 0, 1, 1)))
        self.assertEqual(misfits(work, (one, other), world), ((1, 2), (1, 3)))
        self.assertEqual(stands(work, (one, other), world), (
            ((0, 0, 0),) * 3 + ((0, 0, 2),), ((0, 0, 0),) * 4 + ((0, 0, 2),) * 2))

    def test_nothing_is_changed(self):
        work = Work(MILL)
        book = [[["set", "a", 0]]]
        for call in (is_world, misfits, fits, stands):
            told_of(self, BadBook, call, work, book, None)
        self.assertEqual(book, [[["set", "a", 0]]])
        book = ((("set", "a", None), ("begin", "cut")), (("beside", 0), ("set", "b", None)))
        world = (CREW, ((0, 0, 0), ()), ((1,), (1,)), ((), (0, 1, 0)))
        for _ in range(2):
            self.assertEqual(misfits(work, book, world), ())
            self.assertEqual(stands(book=book, world=world, work=work)[1], ((0, 0, 0), (0, 0, 0), (1, 1, 0)))
        self.assertIs(fits(world=world, book=book, work=work), True)
        self.assertEqual(misfits(world=world, book=book, work=work), ())


class StoriesTest(unittest.TestCase):
    def stories(self, number, many):
        chance = random.Random(number)
        work = Work(PAIRED)
        for _ in range(many):
            crew = chance.choice(TWOS), chance.choice(BACKS)
            yield chance, work, Story(chance, work, crew, chance_links(chance), 9)

    def test_a_true_world_fits_also_in_part(self):
        for chance, work, story in self.stories(1, 400):
            book, world = story.book(), story.world()
            for share in (0, 0.2, 0.6, 1):
                part = blotted(chance, book, share)
                self.assertIs(is_world(work, part, world), True, (part, world))
                self.assertEqual(misfits(work, part, world), (), (part, world))
                self.assertIs(fits(work, part, world), True)
                self.assertEqual(stands(work, part, world), stands(work, book, world))

    def test_other_worlds_as_the_reference_tells(self):
        many = 0
        for chance, work, story in self.stories(2, 500):
            book, (_, firsts, hands, weaves) = blotted(chance, story.book(), 0.3), story.world()
            crew = story.crew if chance.random() < 0.3 else (chance.choice(TWOS), chance.choice(BACKS))
            firsts = tuple(tuple(chance.choice((item, 0)) for item in row) for row in firsts)
            hands = tuple(tuple(chance.choice((item, item, 1)) for item in row) for row in hands)
            world = (crew, firsts, hands, weaves)
            told_stands, told_wrong = reference.go_through(work, book, world)
            self.assertEqual(misfits(work, book, world), told_wrong, (book, world))
            self.assertIs(fits(work, book, world), told_wrong == ())
            self.assertEqual(stands(work, book, world), told_stands)
            many += told_wrong != ()
        self.assertGreater(many, 250)

    def test_one_content_noted_otherwise(self):
        for chance, work, story in self.stories(3, 200):
            book, world = story.book(), story.world()
            marks = [(log, event) for log, row in enumerate(book) for event in range(len(row))]
            for log, event in marks:
                for other in otherwise(book[log][event]):
                    changed = book[log][:event] + (other,) + book[log][event + 1:]
                    changed = book[:log] + (changed,) + book[log + 1:]
                    self.assertEqual(misfits(work, changed, world), ((log, event),), (changed, world))

    def test_weavings_of_stories(self):
        chance = random.Random(4)
        work = Work(PAIRED)
        for _ in range(60):
            crew = chance.choice(TWOS), chance.choice(BACKS)
            story = Story(chance, work, crew, [None, ("beside", 0)], 4)
            book, world = story.book(), story.world()
            rows = reference.weavings(book[1][1:], book[0])
            for weave in itertools.product((0, 1), repeat=len(world[3][1])):
                other = world[:3] + (((), weave),)
                self.assertIs(is_world(work, book, other), weave in rows)
                if weave in rows:
                    told = reference.go_through(work, book, other)
                    self.assertEqual((stands(work, book, other), misfits(work, book, other)), told)


def otherwise(event):
    """The event with one content noted otherwise (all files of the work have the contents 0 and 1)."""
    if event[0] in ("set", "saw"):
        return [event[:2] + (1 - event[2],)]
    rows = []
    if event[0] in ("run", "reads"):
        for at, (file, content) in enumerate(event[2]):
            reads = event[2][:at] + ((file, 1 - content),) + event[2][at + 1:]
            rows.append(event[:2] + (reads,) + event[3:])
    if event[0] in ("run", "end", "break") and event[-1] == "fail":
        rows.append(event[:-1] + ((None,) * (2 if event[1] == "two" else 1),))
    elif event[0] in ("run", "end", "break"):
        for at, content in enumerate(event[-1]):
            rows.append(event[:-1] + (event[-1][:at] + (1 - content,) + event[-1][at + 1:],))
        if event[0] != "break":
            rows.append(event[:-1] + ("fail",))
    return rows


if __name__ == "__main__":
    unittest.main()
