"""Promise 8: trees, and what they are held against."""

import random
import unittest

from stepsunread.errors import BadBook, BadMarks, BadQuestion
from stepsunread.trees import shows_tree, tree
from stepsunread.works import Work
from tests import literal, slow
from tests.chances import SMALL, chance_book, chance_marks, chance_question, many_worlds
from tests.samples import ANY, MILL, NO_BOOKS, YARD, told_of

WORK = Work(MILL)
# One step that reads a and writes c and d; and the same with a claim.
TWO = Work("file a 2\nfile c 2\nfile d 2\nstep two flat 1\n  reads a\n  writes c d")
CLAIMED = Work(SMALL[3])
BOOK = ((("set", "a", 0), ("set", "b", 1), ("run", "cut", (("a", 0),), (2,))),)


def leaf(value):
    return ("gives", value)


class TreesTellAllWorlds(unittest.TestCase):
    def test_against_all_worlds(self):
        chance = random.Random(8)
        for _ in range(50):
            work = Work(chance.choice(SMALL))
            book = chance_book(chance, work)
            if many_worlds(work, book) > 2500:
                continue
            left = chance_marks(chance, book)
            survey = slow.Survey(work, book, left)
            for question in (None, chance_question(chance, work, book)):
                told = tree(work, book, question, left=left)
                with self.subTest(text=work.text, book=book, left=left, question=question):
                    self.assertTrue(survey.parts(told, question))
                    self.assertIs(shows_tree(work, book, question, told, left=left), True)
                    self.assertTrue(literal.shows(work, book, question, told, left))

    def test_equal_calls_return_equal_results(self):
        for question in (None, ("rests",), ("fresh", 0, "mix")):
            self.assertEqual(tree(WORK, BOOK, question), tree(Work(MILL), BOOK, question))

    def test_a_book_of_which_nothing_is_asked(self):
        self.assertEqual(tree(WORK, ((),), None), ("gives", None))
        self.assertIs(shows_tree(WORK, ((),), None, ("gives", None)), True)


class TreesThatAreShown(unittest.TestCase):
    def check(self, seed, many, words=None):
        chance = random.Random(seed)
        shown = {True: 0, False: 0}
        for _ in range(many):
            work = Work(chance.choice(SMALL))
            book = chance_book(chance, work)
            if sum(map(len, book)) > 9 or many_worlds(work, book) > 20000:
                continue
            left = chance_marks(chance, book)
            question = chance_question(chance, work, book, words) if words else None
            rows = [tree(work, book, question, left=left)]
            rows += [literal.chance_tree(chance, work, book, question, left, spare) for spare in (0, 2)]
            for told in rows:
                if len(list(literal.nodes(told))) > 120:
                    continue
                with self.subTest(text=work.text, book=book, left=left, question=question, told=told):
                    self.assertIs(shows_tree(work, book, question, told, left=left), True)
                for _ in range(8):
                    other = literal.altered(chance, work, book, told)
                    is_one = literal.shows(work, book, question, other, left)
                    shown[is_one] += 1
                    with self.subTest(text=work.text, book=book, left=left, question=question, other=other):
                        self.assertIs(shows_tree(work, book, question, other, left=left), is_one)
        self.assertGreater(min(shown.values()), 0)

    def test_without_a_question(self):
        self.check(1, 25)

    def test_questions_about_logs(self):
        self.check(2, 30, ("stood", "ran", "wrote", "had", "would", "fresh", "still"))

    def test_questions_about_sweeps(self):
        self.check(3, 25, ("swept", "sweeps", "turns", "rests"))

    def test_questions_about_steps(self):
        self.check(4, 30, ("does", "uses", "run", "same", "moves", "keeps", "aside", "apart"))


class WrongEvents(unittest.TestCase):
    """Each clause of section 8 that makes an event wrong, and where it halts."""

    def is_shut(self, work, log, event, *choices, left=(), others=()):
        """Whether the event is wrong by the choices, (point, thing), told by a tree of shut leaves alone."""
        book = (log,)

        def build(rows, chosen):
            if not rows:
                return ("shut", 0, event)
            point, thing = rows[0]
            branches = literal.what_can_be(work, book, left, chosen, point)
            self.assertIn(thing, branches)
            return ("at", point, tuple(
                build(rows[1:], chosen | {point: thing}) if branch == thing else
                tree_behind(work, book, left, chosen | {point: branch}) for branch in branches))

        return shows_tree(work, book, None, build(choices, {}), left=left)

    def test_saw(self):
        self.assertTrue(self.is_shut(TWO, (("set", "a", 0), ("saw", "a", 1)), 1))
        self.assertFalse(self.is_shut(TWO, (("set", "a", 0), ("saw", "a", 0)), 1))
        self.assertFalse(self.is_shut(TWO, (("set", "a", 0), ("saw", "a", 1)), 1, left=((0, 1),)))
        self.assertFalse(self.is_shut(TWO, (("saw", "a", 1),), 0))
        self.assertTrue(self.is_shut(TWO, (("saw", "a", 1),), 0, (("first", 0, "a"), 0)))
        self.assertFalse(self.is_shut(TWO, (("saw", "a", 1),), 0, (("first", 0, "a"), 1)))
        self.assertTrue(self.is_shut(TWO, (("set", "a", None), ("saw", "a", 1)), 1, (("hand", 0, 0), 0)))

    def test_a_file_counts_though_its_content_is_open(self):
        reads = ("next", "two", ()), ("read", "a")
        self.assertTrue(self.is_shut(TWO, (("run", "two", (), None),), 0, reads))
        self.assertFalse(self.is_shut(TWO, (("run", "two", (("a", 1),), None),), 0, reads))
        self.assertTrue(self.is_shut(TWO, (("run", "two", (("a", 1),), None),), 0, reads, (("first", 0, "a"), 0)))
        self.assertFalse(self.is_shut(TWO, (("run", "two", (("a", 1),), None),), 0, reads, (("first", 0, "a"), 1)))
        cut = ("next", "cut", ()), ("read", "a")
        self.assertTrue(self.is_shut(WORK, (("run", "cut", (("b", None), None), None),), 0, cut))
        self.assertFalse(self.is_shut(WORK, (("run", "cut", (("a", None), None), None),), 0, cut))
        self.assertFalse(self.is_shut(WORK, (("run", "cut", (None, ("b", None)), None),), 0, cut))
        self.assertTrue(self.is_shut(WORK, (("begin", "cut"), ("reads", "cut", (("b", 0),))), 1, cut))

    def test_a_whole_run(self):
        ends = ("next", "two", ()), ("end", (0, 1))
        fails = ("next", "two", ()), ("fail",)
        for noted, is_wrong in (((0, 1), False), ((0, None), False), (None, False), ((1, None), True), ("fail", True)):
            self.assertEqual(self.is_shut(TWO, (("run", "two", (), noted),), 0, ends), is_wrong)
            self.assertEqual(self.is_shut(TWO, (("begin", "two"), ("end", "two", noted)), 1, ends), is_wrong)
        self.assertTrue(self.is_shut(TWO, (("run", "two", (), (None, None)),), 0, fails))
        self.assertFalse(self.is_shut(TWO, (("run", "two", (None,), "fail"),), 0, fails))
        # Fewer reads than parts, behind a gap, too.
        self.assertTrue(self.is_shut(TWO, (("run", "two", ((None, None),), None),), 0, ends))
        self.assertTrue(self.is_shut(TWO, (("run", "two", (None, (None, None)), None),), 0, ends))

    def test_reads_that_end_early_and_ends_that_read_on(self):
        ends, reads = (("next", "two", ()), ("end", (0, 1))), (("next", "two", ()), ("read", "a"))
        self.assertTrue(self.is_shut(TWO, (("begin", "two"), ("reads", "two", ((None, None),))), 1, ends))
        self.assertFalse(self.is_shut(TWO, (("begin", "two"), ("reads", "two", ())), 1, ends))
        self.assertTrue(self.is_shut(TWO, (("begin", "two"), ("end", "two", None)), 1, reads))
        self.assertTrue(self.is_shut(TWO, (("begin", "two"), ("break", "two", (None,))), 1, reads))
        self.assertFalse(self.is_shut(TWO, (("begin", "two"), ("break", "two", ())), 1, reads))

    def test_breaks(self):
        ends, fails = (("next", "two", ()), ("end", (0, 1))), (("next", "two", ()), ("fail",))
        self.assertTrue(self.is_shut(TWO, (("begin", "two"), ("break", "two", (1,))), 1, ends))
        self.assertFalse(self.is_shut(TWO, (("begin", "two"), ("break", "two", (0,))), 1, ends))
        self.assertTrue(self.is_shut(TWO, (("begin", "two"), ("break", "two", (None,))), 1, fails))
        self.assertFalse(self.is_shut(TWO, (("begin", "two"), ("break", "two", ())), 1, fails))
        # The first of two files was written, the other one was not.
        log = (("set", "d", 0), ("begin", "two"), ("break", "two", (None,)), ("saw", "c", 0), ("saw", "d", 1))
        self.assertTrue(self.is_shut(TWO, log, 4, ends))
        self.assertFalse(self.is_shut(TWO, log, 3, ends))

    def test_events_behind_wrong_ones_are_worked_out(self):
        log = (("set", "a", 0), ("saw", "a", 1), ("saw", "a", 0), ("saw", "a", 1))
        self.assertTrue(self.is_shut(TWO, log, 1))
        self.assertFalse(self.is_shut(TWO, log, 2))
        self.assertTrue(self.is_shut(TWO, log, 3))

    def test_what_is_behind_a_halt_does_not_count(self):
        log = (("set", "a", 0), ("saw", "c", 1), ("saw", "a", 1))
        self.assertFalse(self.is_shut(TWO, log, 2))
        self.assertTrue(self.is_shut(TWO, log, 2, left=((0, 1),)))
        book = ((("saw", "c", 1),), (("set", "a", 0), ("saw", "a", 1)))
        self.assertTrue(shows_tree(TWO, book, None, ("shut", 1, 1)))
        book = ((("saw", "c", 1),), (("after", 0), ("set", "a", 0), ("saw", "a", 1)))
        self.assertFalse(shows_tree(TWO, book, None, ("shut", 1, 2)))
        self.assertTrue(shows_tree(TWO, book, None, ("at", ("first", 0, "c"), (("shut", 0, 0), ("shut", 1, 2)))))

    def test_a_set_that_is_left_out_is_open(self):
        log = (("set", "a", 0), ("saw", "a", 1))
        self.assertFalse(self.is_shut(TWO, log, 1, left=((0, 0),)))
        self.assertTrue(self.is_shut(TWO, log, 1, (("hand", 0, 0), 0), left=((0, 0),)))
        self.assertFalse(shows_tree(TWO, (log,), None, ("at", ("hand", 0, 0), (("shut", 0, 1),) * 2)))


def tree_behind(work, book, left, chosen):
    """A tree behind choices."""
    return literal.chance_tree(random.Random(1), work, book, None, left, 0, chosen)


class Points(unittest.TestCase):
    def check(self, book, point, many, is_one, work=TWO, ahead=None, left=()):
        chosen = ahead or {}
        branch = tuple(tree_behind(work, book, left, chosen | {point: thing}) for thing in many)
        told = ("at", point, branch)
        for before, thing in reversed(list(chosen.items())):
            keys = list(chosen)[:list(chosen).index(before)]
            earlier = {key: chosen[key] for key in keys}
            things = literal.what_can_be(work, book, left, earlier, before)
            told = ("at", before, tuple(
                told if other == thing else tree_behind(work, book, left, earlier | {before: other}) for other in things))
        self.assertIs(shows_tree(work, book, None, told, left=left), is_one, told)

    def test_points_that_need_not_be_asked(self):
        book = ((("set", "a", None), ("set", "c", 1)), (("after", 0),), (("beside", 1),))
        self.check(book, ("first", 0, "a"), (0, 1), True)
        self.check(book, ("first", 1, "a"), (0, 1), False)
        self.check(book, ("first", 2, "a"), (0, 1), False)
        self.check(book, ("first", 3, "a"), (0, 1), False)
        self.check(book, ("first", 0, "e"), (0, 1), False)
        self.check(book, ("hand", 0, 0), (0, 1), True)
        self.check(book, ("hand", 0, 1), (0, 1), False)
        self.check(book, ("hand", 0, 1), (0, 1), True, left=((0, 1),))
        self.check(book, ("hand", 0, 2), (0, 1), False)
        self.check(book, ("hand", 0, True), (0, 1), False, left=((0, 1),))
        self.check(book, ("hand", False, 0), (0, 1), False)
        things = literal.what_can_be(TWO, book, (), {}, ("next", "two", ()))
        self.assertEqual(len(things), 6)
        self.check(book, ("next", "two", ()), things, True)
        self.check(book, ("next", "two", ()), things[:5], False)
        self.check(book, ("next", "cut", ()), things, False)
        self.check(book, ("next", "two", (("a", 0),)), things[:5], False)

    def test_ways_to_which_the_choices_lead(self):
        read = {("next", "two", ()): ("read", "a")}
        # The claim leaves two ends where a is 0; where one way has read, the other one ends, too.
        self.check(((),), ("next", "two", (("a", 0),)), [("end", (0, 0)), ("end", (0, 1))], True, CLAIMED, ahead=read)
        self.check(((),), ("next", "two", (("a", 2),)), [("end", (0, 0)), ("end", (0, 1))], False, CLAIMED, ahead=read)
        self.check(((),), ("next", "two", (("c", 0),)), [("end", (0, 0)), ("end", (0, 1))], False, CLAIMED, ahead=read)
        self.check(((),), ("next", "two", ()), [("end", (0, 0))], False, CLAIMED, ahead=read)
        ends = {("next", "two", ()): ("end", (0, 0))}
        self.check(((),), ("next", "two", (("a", 0),)), [("end", (0, 0)), ("end", (0, 1))], False, CLAIMED, ahead=ends)

    def test_a_point_that_can_be_one_thing_alone(self):
        work = Work(SMALL[4])
        self.assertIs(shows_tree(work, ((),), None, ("at", ("next", "add", ()), (("gives", None),))), True)
        self.assertIs(shows_tree(work, ((),), None, ("at", ("next", "add", ()), (("gives", None),) * 2)), False)
        # It has to be chosen, too.
        question = ("does", "add", ())
        self.assertIs(shows_tree(work, ((),), question, ("gives", ("read", "a"))), False)
        self.assertIs(shows_tree(work, ((),), question, ("at", ("next", "add", ()), (leaf(("read", "a")),))), True)

    def test_weaves(self):
        book = ((("set", "a", 0), ("begin", "two")), (("beside", 0), ("run", "two", (None,), None)))
        # The run stands first, or behind the set: it cannot come behind begin.
        things = literal.what_can_be(TWO, book, (), {}, ("weave", 1, 0))
        self.assertEqual(things, (0, 1))
        self.check(book, ("weave", 1, 0), (0, 1), True)
        self.check(book, ("weave", 0, 0), (0, 1), False)
        self.check(book, ("weave", 1, 1), (0, 1), False)
        self.check(book, ("weave", 1, 3), (0,), False)
        ahead = {("weave", 1, 0): 0}
        for number in (3, 4, -1, None, True):
            for many in ((), (0,), (0, 1)):
                self.check(book, ("weave", 1, number), many, False, ahead=ahead)
        # Behind the set the run alone can come; behind both begin alone.
        self.check(book, ("weave", 1, 1), (1,), True, ahead={("weave", 1, 0): 0})
        self.check(book, ("weave", 1, 2), (0,), True, ahead={("weave", 1, 0): 0})
        self.check(book, ("weave", 1, 1), (0,), True, ahead={("weave", 1, 0): 1})
        self.check(book, ("weave", 1, 1), (0, 1), False, ahead={("weave", 1, 0): 1})
        self.check(book, ("weave", 1, 0), (0, 1), False, ahead={("weave", 1, 0): 1})

    def test_leaves_need_weaves_where_either_can_come(self):
        book = ((("set", "a", 0),), (("beside", 0), ("set", "a", 1)))
        self.assertIs(shows_tree(TWO, book, None, ("gives", None)), False)
        self.assertIs(shows_tree(TWO, book, None, ("at", ("weave", 1, 0), (("gives", None),) * 2)), True)
        question = ("stood", 0, 1, "a")
        told = ("at", ("weave", 1, 0), (("gives", 0), ("gives", 0)))
        self.assertIs(shows_tree(TWO, book, question, told), True)
        question = ("swept", 1, "a")
        self.assertIs(shows_tree(TWO, book, question, told), False)

    def test_values_of_any_kind(self):
        for value in ANY + [("at",), ("shut",), ("gives",), ("gives", None, None), ("at", (), ()), ("at", [], ()),
                            ("at", ("first", 0, "a"), ()), ("at", ("first", 0, []), (1, 2)), ("at", ("next", [], ()), ()),
                            ("at", ("hand", 0, {}), ()), (("at",), 0, 0), ("at", ("weave", 0, 0), ()), ["gives", None]]:
            self.assertIs(shows_tree(WORK, BOOK, None, value), False, value)
            self.assertIs(shows_tree(WORK, BOOK, ("rests",), value), False, value)
        self.assertIs(shows_tree(WORK, ((),), None, ["gives", None]), False)
        self.assertIs(shows_tree(WORK, ((),), None, ("gives", False)), False)

    def test_words_of_leaves(self):
        book = ((("set", "a", 0), ("saw", "a", 1)),)
        self.assertIs(shows_tree(WORK, book, None, ("shut", 0, 1)), True)
        for word in ("Shut", "at", "gives", "saw", "", None, 0):
            self.assertIs(shows_tree(WORK, book, None, (word, 0, 1)), False)
        self.assertIs(shows_tree(WORK, ((),), None, ("gave", None)), False)
        self.assertIs(shows_tree(WORK, ((),), None, ("shut", None)), False)

    def test_a_deep_tree(self):
        log = tuple(("set", "a", None) for _ in range(20))
        told = ("gives", None)
        # The way to the last leaf goes down all points; the others are left early.
        for number in (2, 1, 0):
            for at in reversed(range(20)):
                told = ("at", ("hand", number, at), (("gives", None), told))
        self.assertIs(shows_tree(WORK, (log, log, log), None, told), True)
        told = tree(WORK, (log + (), log, log), None)
        self.assertEqual(told, ("gives", None))


class Errors(unittest.TestCase):
    def test_books(self):
        for book in NO_BOOKS:
            self.assertIs(told_of(self, BadBook, tree, WORK, book, None), book)
            self.assertIs(told_of(self, BadBook, shows_tree, WORK, book, None, None), book)
            self.assertIs(told_of(self, BadBook, tree, WORK, book, 7, left=7), book)
            self.assertIs(told_of(self, BadBook, shows_tree, WORK, book, 7, 7, left=7), book)

    def test_questions(self):
        for question in [value for value in ANY if value is not None] + [("rests", 1), ("ran", 0, 0), ["rests"]]:
            self.assertIs(told_of(self, BadQuestion, tree, WORK, BOOK, question, left=7), question)
            self.assertIs(told_of(self, BadQuestion, shows_tree, WORK, BOOK, question, None, left=7), question)

    def test_marks(self):
        book = BOOK + ((("after", 0), ("begin", "mix"), ("saw", "c", 1)),)
        good = [(), ((0, 0),), ((0, 0), (0, 2), (1, 2))]
        bad = [value for value in ANY if value != ()] + [
            ((0, 3),), ((1, 0),), ((1, 1),), ((2, 0),), ((0, -1),), ((0, 1), (0, 0)), ((0, 0), (0, 0)), [(0, 0)], ([0, 0],),
            ((0, 0, 0),), ((False, 0),), ((0, False),), ((0, None),), (0, 0), ((0,),)]
        for left in good:
            shows_tree(WORK, book, None, tree(WORK, book, None, left=left), left=left)
        for left in bad:
            self.assertIs(told_of(self, BadMarks, tree, WORK, book, None, left=left), left)
            self.assertIs(told_of(self, BadMarks, shows_tree, WORK, book, None, None, left=left), left)

    def test_names_and_places(self):
        told = tree(work=Work(YARD), book=((),), question=None, left=())
        self.assertIs(shows_tree(work=Work(YARD), book=((),), question=None, value=told, left=()), True)
        with self.assertRaises(TypeError):
            tree(WORK, ((),), None, ())


if __name__ == "__main__":
    unittest.main()
