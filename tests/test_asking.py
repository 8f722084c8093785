"""Promise 9: questions, their answers, and what steps surely do."""

import random
import unittest

from stepsunread.answers import answer_in
from stepsunread.asking import ask, is_sure, shows_answers, sure_facts
from stepsunread.cases import case_at
from stepsunread.errors import BadBook, BadQuestion, NoStep, NoWorld
from stepsunread.halts import Halt
from stepsunread.layouts import layout_of
from stepsunread.trees import shows_tree, tree
from stepsunread.works import Work
from tests import literal, reference, slow
from tests.chances import SMALL, WORDS, chance_book, chance_question, many_worlds
from tests.samples import ANY, MILL, NO_BOOKS, told_of

WORK = Work(MILL)
BOOK = ((("set", "a", 0), ("set", "b", 1), ("run", "cut", (("a", 0),), (2,))),)
NOTHING = ((("set", "a", 0), ("saw", "a", 1)),)
NO_QUESTIONS = ANY + [("rests", 1), ("ran", 0, 0), ["rests"], ("fresh", 1, "mix"), ("fresh", 0, "zz"), ("stood", 0, 4, "a"),
                      ("had", 0, 2, 0, "a"), ("had", 0, 0, 2, "a"), ("had", 0, 0, True, "a"), ("same", "cut", "cut", (0, 0, 0))]


class Examples(unittest.TestCase):
    def test_of_section_9(self):
        told = [is_sure(WORK, BOOK, ("run", "cut", (0, 0, 0))), [row[0] for row in ask(WORK, BOOK, ("fresh", 0, "mix"))[0]]]
        self.assertEqual(told, [True, [False, True]])
        self.assertEqual(sure_facts(WORK, BOOK, "cut"), (((), ("read", "a")), ((("a", 0),), ("end", (2,)))))


class AgainstAllWorlds(unittest.TestCase):
    def check(self, seed, words, many):
        chance = random.Random(seed)
        done = 0
        while done < many:
            work = Work(chance.choice(SMALL))
            book = chance_book(chance, work, 3)
            question = chance_question(chance, work, book, words)
            if many_worlds(work, book) > 1500 or question[0] not in words:
                continue
            done += 1
            survey = slow.Survey(work, book)
            with self.subTest(text=work.text, book=book, question=question):
                self.compare(work, book, question, survey)
                self.alter(chance, work, book, question, survey)

    def compare(self, work, book, question, survey):
        expected = [answer for answer, _ in survey.shares(question)]
        rows, told = ask(work, book, question)
        self.assertTrue(literal.is_like(tuple(row[0] for row in rows), tuple(expected)))
        for answer, world in rows:
            self.assertIn(world, survey.fitting)
            self.assertEqual(survey.answer(world, question), answer)
        self.assertTrue(survey.parts(told, question))
        self.assertIs(shows_answers(work, book, question, (rows, told)), True)
        self.assertIs(is_sure(work, book, question), len(expected) == 1)
        self.assertEqual(ask(work, book, question), (rows, told))

    def alter(self, chance, work, book, question, survey):
        """What shows_answers takes and what it does not."""
        rows, told = ask(work, book, question)
        other_tree = literal.chance_tree(chance, work, book, question, (), 1)
        if len(list(literal.nodes(other_tree))) < 200:
            self.assertIs(shows_answers(work, book, question, (rows, other_tree)), True)
        others = []
        for at, (answer, world) in enumerate(rows):
            def put(row):
                return rows[:at] + (row,) + rows[at + 1:]

            found = chance.choice(survey.all)
            is_fine = found in survey.fitting and survey.answer(found, question) == answer
            self.assertIs(shows_answers(work, book, question, (put((answer, found)), told)), is_fine)
            others += [rows[:at] + rows[at + 1:], put((chance.choice([None, True, 0, 1, "x", (0, 1)]), world)),
                       put((answer,)), put([answer, world]), put((answer, world, 0)), put(None), put((answer, None)),
                       rows + (rows[at],), put((not answer, world)) if isinstance(answer, bool) else ()]
        others += [rows[::-1], list(rows), rows + ((5, survey.all[0]),), None]
        for other in others:
            if other != rows or not isinstance(other, tuple):
                self.assertIs(shows_answers(work, book, question, (other, told)), False, other)
        for value in [rows, told, (rows,), [rows, told], (rows, told, 0), (told, rows), (rows, None), (rows, ("gives", 9))]:
            self.assertIs(shows_answers(work, book, question, value), False, value)

    def test_each_question(self):
        for seed, word in enumerate(WORDS):
            self.check(seed, (word,), 8)

    def test_questions_of_pairs_and_others(self):
        self.check(77, ("had", "wrote", "stood", "ran"), 25)

    def test_sure_facts(self):
        chance = random.Random(5)
        for _ in range(60):
            work = Work(chance.choice(SMALL))
            book = chance_book(chance, work)
            if many_worlds(work, book) > 1500:
                continue
            survey = slow.Survey(work, book)
            for at, step in enumerate(work.steps):
                facts = [set(reference.things_done(world[0][at]).items()) for world in survey.fitting]
                with self.subTest(text=work.text, book=book, step=step):
                    if facts:
                        self.assertEqual(sure_facts(work, book, step), tuple(sorted(set.intersection(*facts))))
                    else:
                        self.assertIsNone(told_of(self, NoWorld, sure_facts, work, book, step))


class KnownEarly(unittest.TestCase):
    """Section 9: what makes a question known before all is worked out that it tells of."""

    TEXT = "file a 2\nfile c 2\nfile d 2\nstep two tree 1\n  reads a\n  writes c d\nstep back flat 1\n  reads c\n  writes a"
    ENDS = [("end", row) for row in ((0, 0), (0, 1), (1, 0), (1, 1))] + [("fail",)]

    def shown(self, question, answer, choices, log=()):
        """Whether the answer is known behind the choices, (point, thing)."""
        work, book = Work(self.TEXT), (log,)

        def build(rows, chosen):
            if not rows:
                return ("gives", answer)
            point, thing = rows[0]
            branches = literal.what_can_be(work, book, (), chosen, point)
            self.assertIn(thing, branches)
            return ("at", point, tuple(
                build(rows[1:], chosen | {point: thing}) if branch == thing else
                literal.chance_tree(random.Random(2), work, book, question, (), 0, chosen | {point: branch})
                for branch in branches))

        return shows_tree(work, book, question, build(choices, {}))

    READS = (("next", "two", ()), ("read", "a"))
    ZERO = (("next", "two", (("a", 0),)), ("end", (0, 0)))
    ONE = (("next", "two", (("a", 1),)), ("end", (0, 1)))
    SAME = (("next", "two", (("a", 1),)), ("end", (0, 0)))

    def test_keeps(self):
        question = ("keeps", "two", (0, 0, 0), ())
        self.assertFalse(self.shown(question, True, [self.READS, self.ZERO]))
        self.assertTrue(self.shown(question, True, [self.READS, self.ZERO, self.SAME]))
        self.assertTrue(self.shown(question, False, [self.READS, self.ZERO, self.ONE]))
        self.assertFalse(self.shown(question, True, [self.READS]))
        self.assertTrue(self.shown(("keeps", "two", (0, 0, 0), ("a",)), True, [self.READS, self.ZERO]))
        self.assertFalse(self.shown(("keeps", "two", (1, 0, 0), ("a", "c")), True, [self.READS, self.ZERO]))
        # Two unlike ends will do where a third place is open.
        text, book = "file a 3\nfile c 2\nstep two tree 1\n  reads a\n  writes c", ((),)
        work, way = Work(text), ("next", "two", ())
        told = tree(work, book, ("keeps", "two", (0, 0), ()))
        self.assertTrue(shows_tree(work, book, ("keeps", "two", (0, 0), ()), told))
        below = told[2][3][2][0][2][1]
        self.assertEqual((told[1], below), (way, ("gives", False)))

    def test_uses(self):
        self.assertTrue(self.shown(("uses", "two", "a"), True, [self.READS]))
        self.assertFalse(self.shown(("uses", "two", "c"), False, [self.READS, self.ZERO]))
        self.assertTrue(self.shown(("uses", "two", "c"), False, [self.READS, self.ZERO, self.ONE]))
        self.assertTrue(self.shown(("uses", "two", "a"), False, [(("next", "two", ()), ("fail",))]))

    def test_does(self):
        self.assertTrue(self.shown(("does", "two", (("a", 0),)), None, [(("next", "two", ()), ("fail",))]))
        self.assertFalse(self.shown(("does", "two", (("a", 0),)), None, [self.READS]))
        self.assertTrue(self.shown(("does", "two", (("a", 0), ("a", 1))), None, [self.READS, self.ZERO]))
        self.assertTrue(self.shown(("does", "two", (("a", 0),)), ("end", (0, 0)), [self.READS, self.ZERO]))
        self.assertFalse(self.shown(("does", "two", (("a", 0), ("a", 1))), None, [self.READS]))

    def test_fresh_and_still(self):
        ends = (("next", "two", ()), ("end", (0, 1)))
        log = (("set", "c", 1),)
        self.assertTrue(self.shown(("fresh", 0, "two"), False, [ends], log))
        self.assertFalse(self.shown(("fresh", 0, "two"), False, [ends]))
        log = (("set", "c", 0),)
        self.assertFalse(self.shown(("fresh", 0, "two"), True, [ends], log))
        self.assertTrue(self.shown(("fresh", 0, "two"), True, [ends, (("first", 0, "d"), 1)], log))
        self.assertTrue(self.shown(("fresh", 0, "two"), False, [ends, (("first", 0, "d"), 0)], log))
        self.assertTrue(self.shown(("fresh", 0, "two"), True, [(("next", "two", ()), ("fail",))], log))
        self.assertTrue(self.shown(("still", 0), False, [ends], (("set", "c", 1),)))
        self.assertFalse(self.shown(("still", 0), True, [(("next", "two", ()), ("fail",))], log))
        both = [(("next", "two", ()), ("fail",)), (("next", "back", ()), ("fail",))]
        self.assertTrue(self.shown(("still", 0), True, both, log))
        # The later step alone will do.
        self.assertTrue(self.shown(("still", 0), False, [(("next", "back", ()), ("end", (0,)))], (("set", "a", 1),)))

    def test_sweeps(self):
        fails = [(("next", "two", ()), ("fail",)), (("next", "back", ()), ("fail",))]
        self.assertTrue(self.shown(("sweeps", 0), 0, fails))
        self.assertFalse(self.shown(("swept", 0, "d"), 1, fails))
        self.assertTrue(self.shown(("swept", 0, "d"), 1, fails + [(("first", 0, "d"), 1)]))
        # Each end is held against what stands in all its files.
        ends = [(("next", "two", ()), ("end", (0, 1))), (("next", "back", ()), ("fail",))]
        self.assertFalse(self.shown(("sweeps", 0), 1, ends, (("set", "c", 1),)))
        self.assertTrue(self.shown(("sweeps", 0), 1, ends, (("set", "c", 1), ("set", "d", 1))))
        # A ring that never rests: what stands in d need not be known.
        ring = [self.READS, self.ZERO, (("next", "two", (("a", 1),)), ("end", (1, 0))), (("next", "back", ()), ("read", "c")),
                (("next", "back", (("c", 0),)), ("end", (1,))), (("next", "back", (("c", 1),)), ("end", (0,)))]
        log = (("set", "a", 0), ("set", "c", 0), ("set", "d", 0))
        for question in (("swept", 0, "a"), ("sweeps", 0), ("turns", 0, ()), ("turns", 0, (("a", 1),))):
            self.assertTrue(self.shown(question, None, ring, log), question)
        self.assertTrue(self.shown(("rests",), False, ring))
        self.assertFalse(self.shown(("rests",), False, ring[:5]))
        self.assertFalse(self.shown(("rests",), True, ring))
        self.assertTrue(self.shown(("rests",), True, fails))

    def test_rests_false_where_other_stands_are_open(self):
        text = ("file a 3\nfile c 3\nstep on tree 1\n  reads a\n  writes c\nstep back flat 1\n  reads c\n  writes a")
        work, book = Work(text), ((),)
        choices = [(("next", "on", ()), ("read", "a")), (("next", "back", ()), ("read", "c")),
                   (("next", "on", (("a", 0),)), ("end", (0,))), (("next", "on", (("a", 1),)), ("end", (1,))),
                   (("next", "back", (("c", 0),)), ("end", (1,))), (("next", "back", (("c", 1),)), ("end", (0,)))]
        case = case_at(layout_of(work, book), ())
        for point, thing in choices:
            with self.assertRaises(Halt):
                answer_in(case, ("rests",))
            case = case.with_choice(point, thing)
        self.assertIs(answer_in(case, ("rests",)), False)

    def test_aside_and_apart(self):
        ends = (("next", "two", ()), ("end", (0, 1)))
        back = [(("next", "back", ()), ("read", "c")), (("next", "back", (("c", 1),)), ("end", (0,)))]
        log = (("set", "c", 1),)
        self.assertTrue(self.shown(("aside", 0, "two", "back"), False, [ends] + back, log))
        self.assertFalse(self.shown(("aside", 0, "two", "back"), False, [ends] + back[:1], log))
        self.assertTrue(self.shown(("aside", 0, "back", "two"), True, [(("next", "two", ()), ("end", (1, 0)))] + back, log))
        self.assertTrue(self.shown(("apart", "two", "back"), False, [ends] + back))
        self.assertFalse(self.shown(("apart", "two", "back"), True, [(("next", "two", ()), ("end", (1, 0)))] + back))
        never = [(("next", "two", ()), ("fail",)), (("next", "back", ()), ("end", (0,)))]
        self.assertTrue(self.shown(("apart", "two", "back"), True, never))

    def test_had(self):
        log = (("set", "a", 0), ("run", "two", (None,), None), ("saw", "c", 0))
        question = ("had", 0, 0, 1, "c")
        self.assertFalse(self.shown(question, 1, [self.READS, self.ZERO], log))
        self.assertTrue(self.shown(question, 0, [self.READS, self.ZERO, self.ONE], log))
        # All that comes anew has to be worked out, though nobody writes a.
        self.assertFalse(self.shown(("had", 0, 0, 1, "a"), 1, [self.READS, self.ZERO], log))
        # What was seen is not asked, and what nobody writes stands as it did.
        self.assertTrue(self.shown(("had", 0, 0, 1, "a"), 1, [self.READS, self.ZERO, self.ONE], log))

    def test_had_begins_where_the_pair_begins(self):
        # The other log's run and set come first: the run reads what stood ahead of the set.
        text = "file x 2\nfile y 2\nstep q tree 1\n  reads x\n  writes y"
        book = ((("saw", "x", None),), (("beside", 0), ("run", "q", (("x", 0),), None), ("set", "x", 1)))
        program = ("read", "x", (("end", (0,)), ("end", (1,))))
        world = (program,), ((0, 0), ()), ((), (1,)), ((), (1, 1, 0))
        question = ("had", 1, 2, 0, "y")
        rows, told = ask(Work(text), book, question)
        rows = tuple((answer, world if answer == 0 else other) for answer, other in rows)
        self.assertIs(shows_answers(Work(text), book, question, (rows, told)), True)
        rows = tuple((answer, world if answer == 1 else other) for answer, other in rows)
        self.assertIs(shows_answers(Work(text), book, question, (rows, told)), False)

    def test_apart_where_runs_that_would_meet_never_do(self):
        # one writes what other reads where a is 0; it changes it where a is 1 alone.
        text = ("file a 2\nfile c 2\nfile x 2\nstep one tree 1\n  reads a\n  writes c\n"
                "  claim if a = 0 then fails\n  claim if a = 1 then c = 1\n"
                "step other tree 2\n  reads a c\n  writes x\n  claim ends")
        book = ((("set", "a", 0), ("set", "c", 0), ("run", "other", (("a", 0), ("c", 0)), (0,)), ("set", "a", 1),
                 ("run", "other", (("a", 1),), (1,))),)
        self.assertEqual([row[0] for row in ask(Work(text), book, ("apart", "one", "other"))[0]], [True])
        self.assertEqual([row[0] for row in ask(Work(text), ((),), ("apart", "one", "other"))[0]], [False, True])


class Errors(unittest.TestCase):
    def test_books(self):
        for book in NO_BOOKS:
            for call in (ask, is_sure, sure_facts):
                self.assertIs(told_of(self, BadBook, call, WORK, book, 7), book)
            self.assertIs(told_of(self, BadBook, shows_answers, WORK, book, 7, 7), book)

    def test_questions(self):
        for question in NO_QUESTIONS:
            for call in (ask, is_sure):
                self.assertIs(told_of(self, BadQuestion, call, WORK, BOOK, question), question)
            self.assertIs(told_of(self, BadQuestion, shows_answers, WORK, BOOK, question, None), question)

    def test_steps(self):
        for step in ANY + ["a", "cuts"]:
            for book in (BOOK, NOTHING):
                self.assertIs(told_of(self, NoStep, sure_facts, WORK, book, step), step)

    def test_books_that_no_world_fits(self):
        self.assertIsNone(told_of(self, NoWorld, sure_facts, WORK, NOTHING, "cut"))
        told = ask(WORK, NOTHING, ("rests",))
        self.assertEqual(told[0], ())
        self.assertIs(shows_answers(WORK, NOTHING, ("rests",), told), True)
        self.assertIs(shows_answers(WORK, BOOK, ("rests",), told), False)
        self.assertIs(is_sure(WORK, NOTHING, ("rests",)), False)

    def test_values_of_any_kind(self):
        for value in ANY:
            self.assertIs(shows_answers(WORK, BOOK, ("rests",), value), False)
            self.assertIs(shows_answers(WORK, BOOK, ("rests",), (value, ask(WORK, BOOK, ("rests",))[1])), False)
            self.assertIs(shows_answers(WORK, BOOK, ("rests",), (ask(WORK, BOOK, ("rests",))[0], value)), False)

    def test_answers_by_their_texts(self):
        # Two digits come ahead of greater ones: no sequence of numbers, but of texts.
        rows = ask(WORK, ((("run", "cut", (None,), None),),), ("wrote", 0, 1, "c"))[0]
        self.assertEqual([row[0] for row in rows], [None, (0, 0)])
        rows = ask(WORK, ((),), ("does", "cut", ()))[0]
        self.assertEqual([row[0] for row in rows], [("end", (0,)), ("end", (1,)), ("end", (2,)), ("fail",), ("read", "a"),
                                                    ("read", "b")])


if __name__ == "__main__":
    unittest.main()
