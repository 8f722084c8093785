"""Promise 15: houses."""

import copy
import random
import unittest

from stepsunread import errors
from stepsunread.acts import cheapest
from stepsunread.books import is_book
from stepsunread.clashes import clash
from stepsunread.errors import (
    BadBook, BadContent, BadCount, BadGoal, BadMill, BadPrices, BadQuestion, BadTruth, Clash, Full, NoFile, NoMark, NoStep,
    NothingToUndo, NotUnderWay, NoTrial, TooMany, UnderWay,
)
from stepsunread.houses import House
from stepsunread.mills import Mill
from stepsunread.works import Work
from tests import slow
from tests.chances import chance_question, many_worlds
from tests.model import Model, Wrong
from tests.samples import ANY, MILL, NO_BOOKS, told_of
from tests.stories import Story, blotted, chance_links
from tests.test_acts import TINY
from tests.test_mills import chance_deed, chance_mill

WORK = Work(MILL)
CUT = ("read", "a", (("end", (2,)), ("read", "b", (("end", (0,)), ("end", (1,))))))
MIX = ("read", "c", (("end", (0,)), ("end", (1,)), ("end", (1,))))
CREW = (CUT, MIX)
# Logs that this mill cannot have.
WRONG = ((("set", "a", 0), ("run", "cut", (("a", 0),), (1,)), ("saw", "c", 1)),)
SMALL = TINY + (
    "file a 2\nfile b 2\nfile c 2\nstep cut row 2\n  reads a b\n  writes c\n  claim if a = 0 and b = 0 then c = 1\n"
    "  claim ends\nstep mix flat 1\n  reads c\n  writes b\n  claim ends",
    "file a 2\nfile c 2\nfile d 2\nfile e 2\nstep two flat 1\n  reads a\n  writes c d\n  claim ends\n"
    "step go flat 1\n  reads d\n  writes e\n  claim ends\n  claim if d = 0 then e = 0",
)


def new_house(stand=(0, 0, 0), book=()):
    return House(Mill(WORK, CREW, stand), book=book)


class DeedsTest(unittest.TestCase):
    def test_example(self):
        house = new_house()
        self.assertEqual([house.word("cut"), house.make("cut"), house.word("cut"), house.renew(3), house.stand],
                         ["open", ((("a", 0),), (2,)), "fresh", (("mix", "made"),), (0, 1, 2)])
        self.assertIsNone(house.put("a", 1))
        self.assertEqual(house.renew(3), (("cut", "made"), ("mix", "made")))
        house.put("a", 0)
        self.assertEqual([house.renew(3, is_restoring=True), house.stand, house.made],
                         [(("cut", "restored"),), (0, 1, 2), 4])

    def test_the_mill_is_copied(self):
        mill = Mill(WORK, CREW, (0, 0, 0))
        house = House(mill)
        house.put("a", 1)
        self.assertEqual((mill.stand, house.stand), ((0, 0, 0), (1, 0, 0)))
        mill.make("cut")
        self.assertEqual((mill.stand, house.stand), ((0, 0, 2), (1, 0, 0)))
        self.assertEqual((house.work, house.book, house.made), (WORK, ((("set", "a", 1),),), 0))

    def test_deeds_beside_a_mill(self):
        chance = random.Random(80)
        for _ in range(150):
            work, crew, stand = chance_mill(chance)
            house, model = House(Mill(work, crew, stand)), Model(work, crew, stand)
            for _ in range(chance.randrange(26)):
                self.step(chance, house, model)
            self.assertTrue(is_book(work, house.book))
            while True:
                try:
                    model.undo()
                except Wrong:
                    self.assertIsNone(told_of(self, NothingToUndo, house.undo))
                    break
                self.assertIsNone(house.undo())
                self.same(house, model)
            self.assertEqual(house, House(Mill(work, crew, stand)))

    def step(self, chance, house, model):
        deed = chance_deed(chance, model.twin)
        word, parts, named = deed[0], deed[1:], {}
        if word == "put" and chance.random() < 0.3:
            word, parts = "look", deed[1:2]
        elif word == "put" and chance.random() < 0.5:
            named = {"is_noted": chance.random() < 0.5}
        kept = copy.deepcopy(model.state())
        try:
            told = model.do(word, *parts, *named.values())
        except Wrong as wrong:
            self.assertEqual(wrong.name, "Full")
            self.assertIsNone(told_of(self, Full, getattr(house, word), *parts, **named))
            self.assertEqual(model.state()[1:], kept[1:])
        else:
            self.assertEqual(getattr(house, word)(*parts, **named), told)
        self.same(house, model)

    def same(self, house, model):
        self.assertEqual((house.stand, house.mill.under_way), model.twin.told())
        self.assertEqual((house.book, house.made), (model.book, model.made))

    def test_full(self):
        house = new_house()
        for _ in range(19):
            house.put("a", 0)
        house.begin("mix")
        self.assertEqual(house.made, 1)
        kept = (house.stand, house.book, house.made)
        for call in (lambda: house.put("a", 1), lambda: house.look("a"), lambda: house.make("cut"),
                     lambda: house.begin("cut"), lambda: house.read_on("mix"), lambda: house.finish("mix"),
                     lambda: house.stop("mix", 0)):
            self.assertIsNone(told_of(self, Full, call))
            self.assertEqual((house.stand, house.book, house.made), kept)
        # Other errors come ahead.
        self.assertEqual(told_of(self, BadContent, house.put, "a", 2), 2)
        self.assertEqual(told_of(self, BadTruth, lambda: house.put("a", 1, is_noted=0)), 0)
        self.assertEqual(told_of(self, UnderWay, house.make, "mix"), "mix")
        house.undo()
        house.begin("mix")
        house.undo()
        house.undo()
        house.begin("mix")
        # Room for what it reads, but not for its end, too.
        self.assertIsNone(told_of(self, Full, house.finish, "mix"))
        self.assertEqual(house.mill.under_way, ("mix",))
        self.assertEqual(house.read_on("mix"), ("c", 0))
        # Nothing is noted where it has read all.
        self.assertIsNone(house.read_on("mix"))
        house.undo()
        self.assertEqual(house.read_on("mix"), ("c", 0))
        self.assertEqual(house.undo(), None)
        self.assertEqual(len(house.book[0]), 19)

    def test_full_amid(self):
        house = new_house((1, 0, 0))
        for _ in range(19):
            house.put("a", 1)
        kept = (house.stand, house.book, house.made)
        self.assertIsNone(told_of(self, Full, house.renew, 5))
        self.assertEqual((house.stand, house.book, house.made), kept)
        self.assertIsNone(told_of(self, Full, house.reach, ("know", ("would", 0, "mix")), (1, 1, 1), 3))
        self.assertEqual((house.stand, house.book, house.made), kept)
        self.assertEqual(house.reach(("know", ("stood", 0, 19, "a")), (1, 1, 1), 3), 0)
        self.assertEqual(house.reach(("know", ("stood", 0, 0, "c")), (1, 1, 1), 3), 1)

    def test_errors(self):
        house = new_house()
        house.begin("mix")
        kept = (house.stand, house.book, house.made)
        for value in ANY + ["mix", "c "]:
            self.assertIs(told_of(self, NoFile, lambda: house.put(value, 9, is_noted=9)), value)
            self.assertIs(told_of(self, NoFile, house.look, value), value)
            if value.__class__ is not int or not 0 <= value < 2:
                self.assertIs(told_of(self, BadContent, lambda: house.put("a", value, is_noted=9)), value)
            if not isinstance(value, bool):
                self.assertIs(told_of(self, BadTruth, lambda: house.put("a", 1, is_noted=value)), value)
                self.assertIs(told_of(self, BadTruth, lambda: house.renew(1, is_restoring=value)), value)
        for value in ANY + ["a"]:
            for call in (house.make, house.begin, house.read_on, house.finish, lambda step: house.stop(step, 9), house.word):
                self.assertIs(told_of(self, NoStep, call, value), value)
        for value in ANY + [0, 6, -1, True]:
            if value.__class__ is not int or not 1 <= value <= 5:
                self.assertIs(told_of(self, BadCount, lambda: house.renew(value, is_restoring=7)), value)
            if value.__class__ is not int or value != 0:
                self.assertIs(told_of(self, BadCount, house.stop, "mix", value), value)
        for call in (house.make, house.begin):
            self.assertEqual(told_of(self, UnderWay, call, "mix"), "mix")
        for call in (house.read_on, house.finish, lambda step: house.stop(step, 7)):
            self.assertEqual(told_of(self, NotUnderWay, call, "cut"), "cut")
        self.assertEqual(told_of(self, UnderWay, house.renew, 1), "mix")
        for value in ANY:
            self.assertEqual(told_of(self, UnderWay, house.reach, value, value, value), "mix")
        self.assertEqual(told_of(self, UnderWay, house.turn), "mix")
        self.assertEqual((house.stand, house.book, house.made), kept)
        house.begin("cut")
        self.assertEqual(told_of(self, UnderWay, house.renew, 1), "cut")
        for value in ANY:
            self.assertIs(told_of(self, BadQuestion, house.answers, value), value)
            self.assertIs(told_of(self, NoMark, house.blot, value), value)
        for value in NO_BOOKS:
            self.assertIs(told_of(self, BadBook, house.join, value), value)
        self.assertIsNone(told_of(self, NoTrial, house.keep))

    def test_errors_of_reach(self):
        house = new_house()
        goal = ("know", ("rests",))
        for value in ANY:
            self.assertIs(told_of(self, BadGoal, house.reach, value, None, None), value)
            self.assertIs(told_of(self, BadPrices, house.reach, goal, value, None), value)
            if value.__class__ is not int or not 0 <= value <= 3:
                self.assertIs(told_of(self, BadCount, lambda: house.reach(goal, (1, 1, 1), value, is_writing=1)), value)
            if not isinstance(value, bool):
                self.assertIs(told_of(self, BadTruth, lambda: house.reach(goal, (1, 1, 1), 0, is_writing=value)), value)
        self.assertEqual(house, new_house())

    def test_what_a_house_is_made_of(self):
        mill = Mill(WORK, CREW, (0, 0, 0))
        for value in ANY + [WORK, new_house()]:
            self.assertIs(told_of(self, BadMill, lambda: House(value, book=7)), value)
        busy = mill.copy()
        busy.begin("cut")
        self.assertIs(told_of(self, BadMill, lambda: House(busy, book=7)), busy)
        for value in NO_BOOKS:
            if value != () or not isinstance(value, tuple):
                self.assertIs(told_of(self, BadBook, lambda: House(mill, book=value)), value)
        three = ((), (), ())
        self.assertIs(told_of(self, BadBook, lambda: House(mill, book=three)), three)
        bad = ((("set", "a", 0), ("saw", "a", 1)), ())
        self.assertEqual(told_of(self, Clash, lambda: House(mill, book=bad)), clash(WORK, bad)[0])
        house = House(mill=mill, book=WRONG)
        self.assertEqual(house.book, WRONG + ((),))

    def test_equality(self):
        house, other = new_house(), new_house()
        self.assertTrue(house == other)
        house.put("a", 0)
        self.assertTrue(house != other)
        other.put("a", 0, is_noted=False)
        self.assertTrue(house != other)
        other.undo()
        other.put("a", 0)
        self.assertTrue(house == other)
        house.make("cut")
        other.put("c", 2)
        self.assertTrue(house != other)
        # What can be undone does not count.
        one = new_house()
        one.put("a", 1)
        one.undo()
        self.assertEqual(one, new_house())
        for value in ANY + [house.mill, WORK, house.book]:
            self.assertFalse(house == value)


class KnowledgeTest(unittest.TestCase):
    def make(self, chance):
        """A house with elder logs that its mill may have had, and a model of it."""
        while True:
            work, crew, stand = chance_mill(chance, SMALL)
            elders = ()
            if chance.random() < 0.6:
                links = [link for link in [chance_links(chance)] if len(link) < 3] or [[None]]
                told = crew if chance.random() < 0.4 else chance_mill(chance, (work.text,))[1]
                elders = blotted(chance, Story(chance, work, told, links[0], 3).book(), chance.choice([0, 0.3, 0.6]))
            model = Model(work, crew, stand, elders)
            if many_worlds(work, model.book) <= 600 and model.survey().fitting:
                return House(Mill(work, crew, stand), book=elders), model

    def test_word_and_answers(self):
        chance = random.Random(81)
        seen = {}
        for _ in range(160):
            house, model = self.make(chance)
            for _ in range(chance.randrange(8)):
                DeedsTest.step(self, chance, house, model)
            if many_worlds(model.work, model.book) > 4000:
                continue
            survey = model.survey()
            marks = None if survey.fitting else clash(model.work, model.book)[0]
            for step in model.work.steps:
                told = self.told(model.word, step)
                self.assertEqual(self.house_told(house.word, step), self.expected(told, marks))
                seen[told if isinstance(told, str) else "clash"] = seen.get(str(told), 0) + 1
            for _ in range(3):
                question = chance_question(chance, model.work, model.book)
                told = self.told(lambda question: tuple(model.answers(question)), question)
                self.assertEqual(self.house_told(house.answers, question), self.expected(told, marks))
        self.assertEqual(set(seen), {"fresh", "stale", "open", "clash"})

    same = DeedsTest.same

    def told(self, call, *parts):
        """What the model tells, or what it is to raise."""
        try:
            return call(*parts)
        except Wrong as wrong:
            return wrong

    def house_told(self, call, *parts, **named):
        try:
            return call(*parts, **named)
        except errors.StepError as error:
            return error.__class__.__name__, error.value

    def expected(self, told, marks):
        if isinstance(told, Wrong):
            return told.name, marks if told.name == "Clash" else told.value
        return told

    def test_all_deeds(self):
        chance = random.Random(82)
        seen = {}
        for _ in range(300):
            house, model = self.make(chance)
            for _ in range(chance.randrange(1, 10)):
                if many_worlds(model.work, model.book) > 3000:
                    break
                word = chance.choice(["plain", "plain", "plain", "renew", "renew", "reach", "reach", "join", "blot", "turn", "undo"])
                told = getattr(self, "go_" + word)(chance, house, model)
                self.same(house, model)
                if isinstance(told, tuple) and told[:1] and isinstance(told[0], str):
                    word += " " + told[0]
                seen[word] = seen.get(word, 0) + 1
            while model.past:
                model.undo()
                house.undo()
                self.same(house, model)
        wanted = {"renew", "reach", "join", "blot", "turn", "undo", "renew UnderWay", "renew Clash", "reach UnderWay",
                  "reach Clash", "join Clash", "join TooMany", "turn TooMany", "turn UnderWay", "undo NothingToUndo"}
        self.assertEqual(wanted - set(seen), set(), seen)

    def both(self, house, model, call, deed, *parts):
        """The same for the house and the model."""
        kept = (house.stand, house.book, house.made)
        marks = {}
        book = model.book
        try:
            told = model.do(deed, *parts)
        except Wrong as wrong:
            found = self.house_told(call)
            self.assertEqual(found[0], wrong.name)
            if wrong.name != "Clash":
                self.assertEqual(found[1], wrong.value)
            elif deed != "join":
                # The marks are those of the book as it came to be: of elder logs or this one.
                self.assertTrue(found[1])
            self.assertEqual((house.stand, house.book, house.made), kept)
            return found
        self.assertEqual(self.house_told(call), told, (book, marks))
        return told

    def go_plain(self, chance, house, model):
        DeedsTest.step(self, chance, house, model)

    def go_undo(self, chance, house, model):
        try:
            model.undo()
        except Wrong:
            self.assertEqual(self.house_told(house.undo), ("NothingToUndo", None))
            return "NothingToUndo", None
        return house.undo()

    def go_renew(self, chance, house, model):
        most, is_restoring = chance.randint(1, 5), chance.random() < 0.5
        past = len(model.past)
        told = self.both(house, model, lambda: house.renew(most, is_restoring=is_restoring), "renew", most, is_restoring)
        if told == ():
            self.assertEqual(len(model.past), past)
        return None if told and isinstance(told[0], tuple) else told

    def go_reach(self, chance, house, model):
        goal = chance.choice([("all",), ("know", chance_question(chance, model.work, model.book))])
        prices = tuple(chance.choice([1, 2, 9]) for _ in range(1 + len(model.work.steps)))
        most, is_writing = chance.choice([0, 1, 1, 2]), chance.random() < 0.7
        call = lambda: house.reach(goal, prices, most, is_writing=is_writing)
        if model.twin.left:
            return self.both(house, model, call, "reach", (), prices)
        if not model.survey().fitting:
            self.assertEqual(self.house_told(call), ("Clash", clash(model.work, model.book)[0]))
            return "Clash", None
        plan = cheapest(model.work, model.book, model.last, goal, prices, most, is_writing=is_writing)
        if plan[0] == "none":
            self.assertIsNone(call())
            return None
        told = self.both(house, model, call, "reach", plan[2], prices)
        if not isinstance(told, tuple):
            self.assertLessEqual(told, plan[1])
        return told

    def go_join(self, chance, house, model):
        links = [link for link in [chance_links(chance)] if len(link) < 3] or [[None]]
        crew = model.twin.crew if chance.random() < 0.6 else chance_mill(chance, (model.work.text,))[1]
        book = blotted(chance, Story(chance, model.work, crew, links[0], 3).book(), chance.choice([0, 0.3]))
        if len(model.elders) + len(book) <= 2:
            model.elders += book
            if many_worlds(model.work, model.book) > 3000:
                model.elders = model.elders[:-len(book)]
                return None
            model.elders = model.elders[:-len(book)]
        return self.both(house, model, lambda: house.join(book), "join", book)

    def go_blot(self, chance, house, model):
        marks = [(log, at) for log, row in enumerate(model.elders) for at, event in enumerate(row)
                 if event[0] in ("set", "saw", "run")]
        others = [(log, at) for log in range(3) for at in range(21) if (log, at) not in marks]
        for mark in [chance.choice(others), list(marks[0]) if marks else None, (0,)]:
            self.assertIs(told_of(self, NoMark, house.blot, mark), mark)
        if marks:
            mark = chance.choice(marks)
            return self.both(house, model, lambda: house.blot(mark), "blot", mark)
        return ()

    def go_turn(self, chance, house, model):
        return self.both(house, model, house.turn, "turn")


class ClashTest(unittest.TestCase):
    def test_what_was_told_is_of_another_mill(self):
        house = new_house((0, 0, 0), WRONG)
        self.assertEqual(house.word("cut"), "open")
        house.make("cut")
        marks = clash(WORK, house.book)[0]
        self.assertTrue(marks)
        self.assertEqual(told_of(self, Clash, house.word, "cut"), marks)
        self.assertEqual(told_of(self, NoStep, house.word, "a"), "a")
        self.assertEqual(told_of(self, Clash, house.answers, ("rests",)), marks)
        self.assertEqual(told_of(self, Clash, house.renew, 1), marks)
        self.assertEqual(told_of(self, Clash, house.reach, ("all",), (1, 1, 1), 3), marks)
        self.assertEqual(told_of(self, BadCount, house.reach, ("all",), (1, 1, 1), 4), 4)
        log = ((("saw", "a", 0),),)
        self.assertEqual(told_of(self, Clash, house.join, log), clash(WORK, WRONG + log + house.book[-1:])[0])
        # Plain deeds go on, and so do blot, turn and undo.
        house.put("a", 1)
        house.turn()
        self.assertEqual(house.book[2], (("after", 1),))
        self.assertEqual(told_of(self, TooMany, house.turn), 3)
        house.blot((0, 1))
        self.assertEqual(house.book[0], (("set", "a", 0), ("run", "cut", (None,), None), ("saw", "c", 1)))
        self.assertEqual(told_of(self, Clash, house.word, "cut"), clash(WORK, house.book)[0])
        house.blot((0, 2))
        self.assertEqual(house.word("cut"), "open")
        house.blot((0, 2))
        house.undo()
        self.assertEqual(told_of(self, Clash, house.word, "cut"), clash(WORK, house.book)[0])

    def test_clash_amid_a_renewal(self):
        house = new_house((0, 0, 0), WRONG)
        kept = (house.stand, house.book, house.made)
        marks = told_of(self, Clash, house.renew, 1)
        self.assertEqual(marks, clash(WORK, WRONG + ((("run", "cut", (("a", 0),), (2,)),),))[0])
        self.assertEqual((house.stand, house.book, house.made), kept)
        self.assertIsNone(told_of(self, NothingToUndo, house.undo))
        # By the last run of the last sweep.
        told = ((("run", "mix", (("c", 2),), (0,)),),)
        house = new_house((0, 0, 0), told)
        marks = told_of(self, Clash, house.renew, 1)
        runs = (("run", "cut", (("a", 0),), (2,)), ("run", "mix", (("c", 2),), (1,)))
        self.assertEqual(marks, clash(WORK, told + (runs,))[0])
        self.assertEqual(house, new_house((0, 0, 0), told))

    def test_clash_by_the_last_act(self):
        told = ((("run", "mix", (("c", 0),), (1,)),),)
        work = Work(MILL.replace("writes b\n  claim ends", "writes b\n  claim if c = 2 then fails"))
        mix = ("read", "c", (("end", (0,)), ("end", (1,)), ("fail",)))
        house = House(Mill(work, (CUT, mix), (0, 0, 0)), book=told)
        kept = (house.stand, house.book, house.made)
        goal = ("know", ("stood", 1, 0, "c"))
        found = told_of(self, Clash, house.reach, goal, (9, 9, 1), 1)
        book = cheapest(work, house.book, 1, goal, (9, 9, 1), 1)
        self.assertEqual(book[2][1][0], "probe")
        self.assertEqual(found, clash(work, told + ((("set", "a", 0), ("run", "mix", (("c", 0),), (0,))),))[0])
        self.assertEqual((house.stand, house.book, house.made), kept)

    def test_join_numbers_on(self):
        house = new_house()
        house.put("a", 1)
        house.turn()
        house.make("cut")
        self.assertEqual(house.book[1][0], ("after", 0))
        house.join(((("saw", "b", 1),),))
        self.assertEqual(house.book, ((("set", "a", 1),), (("saw", "b", 1),),
                                      (("after", 0), ("run", "cut", (("a", 1), ("b", 0)), (0,)))))
        self.assertEqual(told_of(self, TooMany, house.join, ((),)), 3)
        self.assertEqual(told_of(self, BadBook, house.join, ()), ())
        self.assertEqual(told_of(self, BadBook, house.join, ((), (), ())), ((), (), ()))
        house.undo()
        self.assertEqual(told_of(self, TooMany, house.join, ((), (("beside", 0),))), 3)
        other = new_house()
        other.join(((), (("beside", 0), ("set", "a", 1))))
        self.assertEqual(other.book, ((), (("beside", 0), ("set", "a", 1)), ()))
        other = new_house()
        other.turn()
        self.assertEqual(told_of(self, TooMany, other.join, ((), (("after", 0),))), 3)

    def test_after_is_numbered_on(self):
        # Two elder logs that came one after the other, joined in a house that has none.
        house = new_house()
        house.join(((("set", "a", 1),), (("after", 0), ("saw", "a", 1))))
        self.assertEqual(house.book[1], (("after", 0), ("saw", "a", 1)))
        self.assertEqual(told_of(self, Clash, new_house().join, ((("set", "a", 1),), (("after", 0), ("saw", "a", 0)))),
                         ((0, 0), (1, 1)))

    def test_blot(self):
        log = (("set", "a", 0), ("saw", "b", None), ("run", "cut", (("a", 0),), None), ("begin", "cut"),
               ("reads", "cut", (("a", 0),)), ("end", "cut", None), ("run", "mix", (None,), None), ("run", "mix", (None, None), None))
        house = new_house((0, 0, 0), (log,))
        house.put("a", 1)
        for mark in ((0, 3), (0, 4), (0, 5), (0, 8), (1, 0), (0, -1), (-1, 0), (0, True), [0, 0], (0, 0, 0), None):
            self.assertIs(told_of(self, NoMark, house.blot, mark), mark)
        many = len(house.past)
        for mark in ((0, 1), (0, 6), (0, 7)):
            self.assertIsNone(house.blot(mark))
        self.assertEqual((house.book[0], len(house.past)), (log, many))
        house.blot((0, 2))
        house.blot(mark=(0, 0))
        self.assertEqual(house.book[0][:3], (("set", "a", None), ("saw", "b", None), ("run", "cut", (None,), None)))
        house.undo()
        house.undo()
        self.assertEqual(house.book[0], log)
        # An own log that has become an elder one.
        house = new_house()
        house.look("a")
        house.turn()
        house.blot((0, 0))
        self.assertEqual(house.book, ((("saw", "a", None),), (("after", 0),)))


class TrialTest(unittest.TestCase):
    def test_trials(self):
        house = new_house()
        house.put("a", 1)
        kept = new_house()
        kept.put("a", 1)
        with house.trial() as held:
            self.assertIs(held, house)
            held.make("cut")
            held.undo()
            held.undo()
            self.assertEqual(held.stand, (0, 0, 0))
            self.assertIsNone(told_of(self, NothingToUndo, held.undo))
        self.assertEqual(house, kept)
        house.undo()
        self.assertEqual(house, new_house())
        # What is kept can be undone deed by deed.
        with house.trial() as held:
            held.put("a", 1)
            held.keep()
            held.make("cut")
        self.assertEqual(house.made, 1)
        house.undo()
        self.assertEqual((house.stand, house.made), ((1, 0, 0), 0))
        # Undo goes on to what was done ahead of the trial.
        with house.trial() as held:
            held.undo()
            held.keep()
        self.assertIsNone(told_of(self, NothingToUndo, house.undo))
        self.assertIsNone(told_of(self, NoTrial, house.keep))

    def test_errors_that_leave(self):
        house = new_house()
        with self.assertRaises(KeyError):
            with house.trial() as held:
                held.put("a", 1)
                held.keep()
                raise KeyError(1)
        self.assertEqual(house, new_house())
        self.assertIsNone(told_of(self, NoTrial, house.keep))
        # An error that does not leave it.
        with house.trial() as held:
            held.put("a", 1)
            self.assertEqual(told_of(self, NoFile, held.put, "x", 1), "x")
            held.keep()
        self.assertEqual(house.stand, (1, 0, 0))

    def test_within_one_another(self):
        for outer in (False, True):
            for inner in (False, True):
                house = new_house()
                with house.trial() as held:
                    held.put("a", 1)
                    with held.trial() as deeper:
                        deeper.put("b", 1)
                        if inner:
                            deeper.keep()
                    self.assertEqual(held.stand, (1, int(inner), 0))
                    held.put("c", 2)
                    if outer:
                        held.keep()
                self.assertEqual(house.stand, (1, int(inner), 2) if outer else (0, 0, 0))
                many = (2 + inner) * outer
                for _ in range(many):
                    house.undo()
                self.assertEqual(house, new_house())
                self.assertIsNone(told_of(self, NothingToUndo, house.undo))

    def test_tried(self):
        house = new_house()
        self.assertEqual(house.tried(lambda held: held.make("cut")), ((("a", 0),), (2,)))
        self.assertEqual(house, new_house())
        for value in (1, "yes", None, (), False):
            self.assertEqual(house.tried(lambda held: (held.put("a", 1), held.stand)[1], is_kept=value), (1, 0, 0))
            self.assertEqual(house, new_house())
        self.assertIs(house.tried(look=lambda held: held, is_kept=True), house)
        self.assertIsNone(told_of(self, NothingToUndo, house.undo))
        house.tried(lambda held: held.put("a", 1), is_kept=True)
        self.assertEqual(house.stand, (1, 0, 0))
        house.undo()

        def wrong(held):
            held.put("b", 1)
            held.keep()
            held.make("no")

        self.assertEqual(told_of(self, NoStep, lambda: house.tried(wrong, is_kept=True)), "no")
        self.assertEqual(house, new_house())
        with self.assertRaises(ZeroDivisionError):
            house.tried(lambda held: held.put("a", 1) or 1 // 0, is_kept=True)
        self.assertEqual(house, new_house())
        # One trial within another one.
        told = house.tried(lambda held: held.tried(lambda deeper: deeper.put("a", 1), is_kept=True) or held.stand)
        self.assertEqual((told, house.stand), ((1, 0, 0), (0, 0, 0)))

    def test_renewals_and_acts_are_one_deed(self):
        house = new_house()
        self.assertEqual(house.renew(5), (("cut", "made"), ("mix", "made")))
        self.assertEqual(house.reach(("know", ("does", "cut", (("a", 1),))), (1, 1, 1), 3), 1)
        self.assertEqual((house.made, len(house.book[0])), (3, 4))
        house.undo()
        self.assertEqual((house.made, len(house.book[0])), (2, 2))
        house.undo()
        self.assertEqual(house, new_house())
        # What changes nothing is no deed.
        house.make("cut")
        house.make("mix")
        self.assertEqual(house.renew(1), ())
        self.assertEqual(house.reach(("know", ("stood", 0, 0, "a")), (1, 1, 1), 3), 0)
        self.assertIsNone(house.reach(("know", ("stood", 0, 0, "b")), (1, 1, 1), 3))
        house.undo()
        self.assertEqual(house.book[0], (("run", "cut", (("a", 0),), (2,)),))


class RenewalTest(unittest.TestCase):
    def test_files_stand_as_if_all_were_run(self):
        chance = random.Random(83)
        for _ in range(120):
            work, crew, stand = chance_mill(chance, SMALL)
            house = House(Mill(work, crew, stand))
            for _ in range(chance.randrange(5)):
                file = chance.choice(work.files)
                house.put(file, chance.randrange(slow.sizes(work)[file]), is_noted=chance.random() < 0.7)
                if chance.random() < 0.4:
                    house.renew(1)
            most = chance.randint(1, 3)
            beside = Mill(work, crew, house.stand)
            for _ in range(most):
                for step in work.steps:
                    beside.make(step)
            ahead = house.stand
            try:
                rows = house.renew(most, is_restoring=chance.random() < 0.5)
            except Full:
                self.assertEqual(house.stand, ahead)
                continue
            sweeps = slow.sweep_out(slow.Trace(work, ((),), (crew, (ahead,), ((),), ((),))), slow.named(work, ahead))
            if sweeps is not None and sweeps[0] <= most:
                self.assertEqual(house.stand, tuple(sweeps[1][file] for file in work.files))
            self.assertEqual(house.stand, beside.stand)
            self.assertTrue(all(step in work.steps and how in ("made", "restored") for step, how in rows))

    def test_two_files_are_restored(self):
        work = Work("file a 2\nfile c 2\nfile d 2\nstep two flat 1\n  reads a\n  writes c d\n  claim ends")
        crew = (("read", "a", (("end", (1, 0)), ("end", (0, 1)))),)
        house = House(Mill(work, crew, (0, 0, 0)))
        house.make("two")
        house.put("c", 0)
        self.assertEqual(house.renew(2, is_restoring=True), (("two", "restored"),))
        self.assertEqual(house.book[0][-2:], (("set", "c", 1), ("set", "d", 0)))
        house.put("d", 1, is_noted=False)
        self.assertEqual(house.word("two"), "open")
        self.assertEqual(house.renew(2, is_restoring=True), (("two", "restored"),))
        self.assertEqual((house.stand, house.made), ((0, 1, 0), 1))

    def test_what_surely_fails_is_left(self):
        work = Work("file a 2\nfile c 2\nstep cut tree 1\n  reads a\n  writes c\n  claim fails")
        house = House(Mill(work, (("read", "a", (("fail",), ("fail",))),), (0, 0)))
        for is_restoring in (True, False):
            self.assertEqual(house.renew(5, is_restoring=is_restoring), ())
        self.assertEqual(house.word("cut"), "fresh")


if __name__ == "__main__":
    unittest.main()
