"""Promise 17: a desk."""

import random
import unittest

from stepsunread import errors
from stepsunread.counts import worlds
from stepsunread.desk import Desk
from stepsunread.errors import BadContent, BadCount, BadGoal, BadHouse, BadLine, BadQuestion, Clash, Full, NoFile, NoStep
from stepsunread.errors import NothingToUndo, NotUnderWay, TooMany, UnderWay
from stepsunread.houses import House
from stepsunread.mills import Mill
from stepsunread.reading import read_house
from stepsunread.texts import show_house, show_question
from stepsunread.works import Work
from tests import slow
from tests.chances import chance_question, many_worlds
from tests.samples import ANY, MILL, told_of
from tests.test_houses import CREW, SMALL, WRONG
from tests.test_mills import chance_mill
from tests.test_texts import QUESTIONS, spoiled

WORK = Work(MILL)
BAD_LINES = [
    "", " ", "put", "put a", "put a 1 ", " put a 1", "put  a 1", "put a 1 1", "put a 01", "put a ?", "put a -1", "put A 1",
    "put ninecharx 1", "put a 1234567890", "Put a 1", "hide a", "hide 1 a", "look", "look a b", "look 1", "make", "make cut cut",
    "begin", "begin 0", "on", "on cut 1", "finish", "finish cut 0", "stop cut", "stop cut x", "stop 0 cut", "stop cut 0 0",
    "word", "word cut cut", "word 0", "ask", "ask ", "ask no", "ask rests ", "ask  rests", "ask rests 0", "ask stood 0 0",
    "ask stood 0 0 a a", "ask stood a 0 a", "ask stood 0 00 a", "ask stood 0 0 0", "ask does cut", "ask does cut a", "ask does cut a:?",
    "ask does cut ..", "ask does cut a:0,", "ask run cut 0,0,?", "ask run cut 0,,0", "ask run cut a", "ask keeps cut 0,0,0 0",
    "ask keeps cut 0,0,0", "ask turns 0 a", "ask turns 0", "ask had 0 0 ? a", "count 0", "count ", "counts", "renew", "renew x",
    "renew 01", "renew 1 1", "restore", "restore 1234567890", "know", "know 1", "know rests", "know rests 1", "know 1 no",
    "know 1 rests rests", "know  1 rests", "know 01 rests", "all", "all x", "all 1 1", "all 1 rests", "undo 1", "undo ", "turn turn",
    "keep", "join", "blot 0 0", "rests", "put a 1\n", "put\ta 1", "put a 1\nput a 1", "a" * 9000, "make make,make"]


def new_desk(book=()):
    return Desk(House(Mill(WORK, CREW, (0, 0, 0)), book=book))


class DeskTest(unittest.TestCase):
    def test_each_line(self):
        desk = new_desk()
        rows = [("put a 1", "done"), ("hide b 1", "done"), ("look a", "1"), ("make cut", "a:1,b:1 1"), ("begin cut", "done"),
                ("on cut", "a:1"), ("put b 0", "done"), ("on cut", "b:0"), ("on cut", "-"), ("finish cut", "- 0"),
                ("begin mix", "done"), ("finish mix", "c:0 0"), ("begin cut", "done"), ("stop cut 0", "- -"), ("word cut", "fresh"),
                ("word mix", "fresh"), ("ask would 0 cut", "0"), ("ask does cut a:1,b:0", "end 0"), ("ask does cut a:0", None),
                ("put a 0", "done"), ("know 0 does cut a:0", "none"), ("know 1 does cut a:0", "1"), ("renew 1", "mix made"),
                ("undo", "done"), ("undo", "done"), ("turn", "done"), ("renew 1", "cut made / mix made"), ("renew 2", "-"),
                ("put c 0", "done"), ("restore 2", "cut restored"), ("all 3", "2"), ("ask wrote 1 0 b", None), ("undo", "done")]
        for line, told in rows:
            found = desk.say(line)
            self.assertIsInstance(found, str)
            if told is not None:
                self.assertEqual(found, told, line)
        self.assertEqual(desk.say("count"), str(worlds(WORK, desk.house.book)))
        self.assertEqual(desk.say(line="ask uses cut a"), "yes")

    def test_answers_are_joined(self):
        desk = new_desk()
        self.assertEqual(desk.say("ask stood 0 0 c"), "0 / 1 / 2")
        self.assertEqual(desk.say("ask uses cut a"), "no / yes")
        self.assertEqual(desk.say("ask does cut -"), "end 0 / end 1 / end 2 / fail / read a / read b")
        self.assertEqual(desk.say("ask wrote 0 0 a"), "*")
        self.assertEqual(desk.say("ask would 0 cut"), "0 / 1 / 2 / fail")
        self.assertIn("a:0,b:0 0", desk.say("ask run cut 0,0,0").split(" / "))
        self.assertEqual(desk.say("ask turns 0 -").split(" / ")[0], "*")

    def test_lines_that_are_none(self):
        desk = new_desk()
        for line in BAD_LINES + [value for value in ANY if not isinstance(value, str)] + [["undo"], ("undo",)]:
            self.assertIs(told_of(self, BadLine, desk.say, line), line)
        house = desk.house
        for value in ANY + [desk, house.mill, WORK]:
            self.assertIs(told_of(self, BadHouse, Desk, value), value)
        self.assertIs(Desk(house=house).house, house)
        self.assertEqual(house, new_desk().house)

    def test_errors_of_the_methods(self):
        desk = new_desk()
        house = desk.house
        house.begin("mix")
        for line, error, value in [
                ("put x 9", NoFile, "x"), ("put a 2", BadContent, 2), ("hide a 999999999", BadContent, 999999999), ("look x", NoFile, "x"),
                ("make x", NoStep, "x"), ("make mix", UnderWay, "mix"), ("begin mix", UnderWay, "mix"), ("on cut", NotUnderWay, "cut"),
                ("finish cut", NotUnderWay, "cut"), ("finish x", NoStep, "x"), ("stop cut 0", NotUnderWay, "cut"),
                ("stop mix 1", BadCount, 1), ("word x", NoStep, "x"), ("renew 0", BadCount, 0), ("renew 6", BadCount, 6),
                ("restore 9", BadCount, 9), ("renew 1", UnderWay, "mix"), ("know 9 rests", UnderWay, "mix"), ("all 9", UnderWay, "mix"),
                ("turn", UnderWay, "mix"), ("ask stood 0 2 a", BadQuestion, ("stood", 0, 2, "a")),
                ("ask does cut c:7,a:0", BadQuestion, ("does", "cut", (("c", 7), ("a", 0)))),
                ("ask run x -", BadQuestion, ("run", "x", ())), ("ask keeps cut 0,0,0 b,a", BadQuestion, ("keeps", "cut", (0, 0, 0), ("b", "a"))),
                ("ask keeps cut 1 -", BadQuestion, ("keeps", "cut", (1,), ())), ("ask turns 5 a:0,a:0", BadQuestion, ("turns", 5, (("a", 0), ("a", 0))))]:
            self.assertEqual(told_of(self, error, desk.say, line), value, line)
        house.undo()
        for line, error, value in [
                ("know 4 rests", BadCount, 4), ("know 4 still 1", BadGoal, ("know", ("still", 1))), ("all 4", BadCount, 4),
                ("know 1 run cut 0", BadGoal, ("know", ("run", "cut", (0,)))), ("undo", NothingToUndo, None)]:
            self.assertEqual(told_of(self, error, desk.say, line), value, line)
        self.assertEqual(house, new_desk().house)
        for _ in range(20):
            desk.say("look a")
        for line in ("look a", "put a 0", "hide a 0", "make cut", "begin cut", "renew 1"):
            self.assertIsNone(told_of(self, Full, desk.say, line))
        self.assertEqual([desk.say("turn"), desk.say("turn")], ["done", "done"])
        self.assertEqual(told_of(self, TooMany, desk.say, "turn"), 3)

    def test_clash(self):
        desk = new_desk(WRONG)
        desk.say("make cut")
        for line in ("word cut", "ask rests", "renew 1", "restore 1", "know 1 rests", "all 1"):
            self.assertTrue(told_of(self, Clash, desk.say, line))
        self.assertEqual(desk.say("count"), "0")

    def test_questions_of_all_forms(self):
        desk = new_desk()
        desk.say("put a 0")
        desk.say("make cut")
        for question, text in QUESTIONS:
            self.assertEqual(desk.say("ask " + text), " / ".join(
                slow.text_of(question, answer) for answer in desk.house.answers(question)))
            self.assertEqual(show_question(WORK, desk.house.book, question), text)

    def test_beside_the_methods(self):
        chance = random.Random(93)
        for _ in range(120):
            work, crew, stand = chance_mill(chance, SMALL)
            desk, house = Desk(House(Mill(work, crew, stand))), House(Mill(work, crew, stand))
            for _ in range(chance.randrange(12)):
                line, call, show = self.line(chance, house)
                ahead = show_or_none(desk.house)
                try:
                    told = call()
                except errors.StepError as error:
                    self.assertEqual(told_of(self, error.__class__, desk.say, line), error.value)
                    self.assertEqual(show_or_none(desk.house), ahead)
                else:
                    self.assertEqual(desk.say(line), show(told))
                self.assertTrue(desk.house == house)
                if chance.random() < 0.1 and not house.mill.under_way:
                    desk, house = Desk(read_house(show_house(house))), read_house(show_house(house))
                other = chance.choice(spoiled(chance, line))
                if other.split(" ")[0] not in ("put", "hide", "look", "make", "begin", "on", "finish", "stop", "renew", "restore",
                                               "word", "ask", "know", "all", "count", "undo", "turn"):
                    self.assertIs(told_of(self, BadLine, desk.say, other), other)
                many = many_worlds(work, house.book)
                if many <= 3000:
                    self.assertEqual(desk.say("count"), str(len(slow.Survey(work, house.book).fitting)))

    def line(self, chance, house):
        """(line, what it stands for, the text of what that returns)."""
        work = house.work
        file, step, number = chance.choice(work.files), chance.choice(work.steps), chance.randrange(5)
        if chance.random() < 0.05:
            file, step = "nofile", "nostep"
        question = chance_question(chance, work, house.book)
        text = show_question(work, house.book, question)
        ones = (1,) * (1 + len(work.steps))

        def run(told):
            reads, end = told
            return (",".join("%s:%d" % read for read in reads) or "-") + " " + (
                end if isinstance(end, str) else ",".join(map(str, end)) or "-")

        def rows(told):
            return " / ".join("%s %s" % row for row in told) or "-"

        def price(told):
            return "none" if told is None else str(told)

        def done(told):
            return "done"

        return chance.choice([
            ("put %s %d" % (file, number), lambda: house.put(file, number), done),
            ("hide %s %d" % (file, number), lambda: house.put(file, number, is_noted=False), done),
            ("look %s" % file, lambda: house.look(file), str), ("make %s" % step, lambda: house.make(step), run),
            ("begin %s" % step, lambda: house.begin(step), done),
            ("on %s" % step, lambda: house.read_on(step), lambda told: "-" if told is None else "%s:%d" % told),
            ("finish %s" % step, lambda: house.finish(step), run),
            ("stop %s %d" % (step, number % 3), lambda: house.stop(step, number % 3), run),
            ("word %s" % step, lambda: house.word(step), str),
            ("ask %s" % text, lambda: house.answers(question),
             lambda told: " / ".join(slow.text_of(question, answer) for answer in told)),
            ("renew %d" % number, lambda: house.renew(number), rows),
            ("restore %d" % number, lambda: house.renew(number, is_restoring=True), rows),
            ("know %d %s" % (number % 3, text), lambda: house.reach(("know", question), ones, number % 3), price),
            ("all %d" % (number % 2), lambda: house.reach(("all",), ones, number % 2), price),
            ("undo", house.undo, done), ("turn", house.turn, done)])


def show_or_none(house):
    return None if house.mill.under_way else show_house(house)


if __name__ == "__main__":
    unittest.main()
