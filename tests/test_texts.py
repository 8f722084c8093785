"""Promise 16: texts, and what is read from them."""

import random
import unittest

from stepsunread.errors import (
    BadBook, BadEvent, BadHouse, BadProgram, BadQuestion, BadText, BadWork, NoStep,
)
from stepsunread.houses import House
from stepsunread.mills import Mill
from stepsunread.reading import read_book, read_event, read_house, read_program, read_question
from stepsunread.texts import show_book, show_event, show_house, show_program, show_question
from stepsunread.works import Work
from tests import slow
from tests.chances import chance_book, chance_question
from tests.samples import ANY, MILL, NO_BOOKS, WORDS, YARD, told_of
from tests.stories import Story, blotted, chance_links
from tests.test_houses import SMALL
from tests.test_mills import chance_mill

WORK = Work(MILL)
TWO = Work(YARD)
CUT = ("read", "a", (("end", (2,)), ("read", "b", (("end", (0,)), ("fail",)))))
MIX = ("read", "c", (("end", (0,)), ("end", (1,)), ("end", (1,))))

EVENTS = [
    (("after", 0), "after 0"), (("beside", 12), "beside 12"), (("set", "a", 1), "set a 1"), (("set", "a", None), "set a ?"),
    (("saw", "c", 0), "saw c 0"), (("saw", "c", None), "saw c ?"), (("run", "a", (), (0, 1)), "run a - 0,1"),
    (("run", "a", (("a", 1), ("b", 2)), "fail"), "run a a:1,b:2 fail"), (("run", "a", (None,), None), "run a .. *"),
    (("run", "a", (None, (None, 3), ("b", None), (None, None)), (None, 1)), "run a ..,?:3,b:?,?:? ?,1"),
    (("begin", "glue"), "begin glue"), (("reads", "a", ()), "reads a -"), (("reads", "a", (("a", 0),)), "reads a a:0"),
    (("reads", "a", ((None, None), (None, 0))), "reads a ?:?,?:0"), (("end", "a", None), "end a *"),
    (("end", "a", "fail"), "end a fail"), (("end", "a", (1, None)), "end a 1,?"), (("break", "a", ()), "break a -"),
    (("break", "a", (1,)), "break a 1"), (("break", "a", (None,)), "break a ?"), (("end", "glue", (0,)), "end glue 0")]
NO_EVENTS = [
    "", " ", "set", "set a", "set a 1 ", " set a 1", "set  a 1", "set a 01", "set a 2", "set a -1", "set a +1", "set A 1",
    "set x 1", "Set a 1", "set a 1 1", "set a", "set a 0000000001", "set a *", "set a ??", "set a -", "set a 1\n", "set a\t1",
    "saw a", "log", "  set a 1", "run a - ", "run a  0,1", "run a - 0", "run a - 0,1,1", "run a - 0,", "run a - ,0", "run a - -",
    "run a a:1, 0,1", "run a a1 0,1", "run a a:1:1 0,1", "run a a: 0,1", "run a :1 0,1", "run a a:*,b:1 0,1", "run a . 0,1",
    "run a ... 0,1", "run a ..,..,..,..,.. *", "run a a:2 *", "run a c:1 *", "run a ?:4 *", "run glue - fails", "reads a ..",
    "reads a a:0,..", "reads a *", "end a", "end a -", "end a ?", "end a fail,fail", "break a 0,1", "break a *", "break a fail",
    "break glue 0", "begin", "begin a a", "begin x", "after", "after -1", "after 01", "after a", "after 1234567890",
    "beside 0 0", "run a -,a:0 *", "run a a:0,- *", "after 0\n"]
PROGRAMS = [("cut", CUT, "a(2 b(0 fail))"), ("cut", ("end", (1,)), "1"), ("cut", ("fail",), "fail"), ("mix", MIX, "c(0 1 1)")]
NO_PROGRAMS = [
    "", " ", "a", "a(", "a()", "a(2)", "a(2 2", "a(2 2))", "a(2  2)", "a( 2 2)", "a(2 2 )", "a(2 2) ", " a(2 2)", "a (2 2)",
    "a(2,2)", "a(2 2 2)", "a(2 3)", "a(2 02)", "a(2 a(0 0))", "a(2 b(0 a(1 1)))", "c(0 0 0)", "x(0 0)", "A(2 2)", "2,2", "-",
    "a(2 -)", "?", "*", "a(2 ?)", "a(2 *)", "fail ", "fails", "end 2", "read a", "((2 2))", "(2 2)", "a((2 2))", "2)", "a(2 2)a",
    "a(fail fail(0 0))", "0000000001", "a(2\n2)", ")", "("]
QUESTIONS = [
    (("stood", 0, 2, "c"), "stood 0 2 c"), (("ran", 0, 1), "ran 0 1"), (("wrote", 0, 0, "a"), "wrote 0 0 a"),
    (("had", 0, 0, 1, "c"), "had 0 0 1 c"), (("does", "cut", ()), "does cut -"),
    (("does", "cut", (("a", 1), ("b", 0))), "does cut a:1,b:0"), (("uses", "cut", "b"), "uses cut b"),
    (("run", "cut", (0, 1, 2)), "run cut 0,1,2"), (("same", "cut", "mix", (0, 1, 2)), "same cut mix 0,1,2"),
    (("moves", "cut", (0, 1, 2), "c", 1), "moves cut 0,1,2 c 1"), (("keeps", "cut", (0, 1, 2), ()), "keeps cut 0,1,2 -"),
    (("keeps", "cut", (0, 1, 2), ("a", "c")), "keeps cut 0,1,2 a,c"), (("would", 0, "cut"), "would 0 cut"),
    (("fresh", 0, "mix"), "fresh 0 mix"), (("still", 0), "still 0"), (("swept", 0, "b"), "swept 0 b"),
    (("sweeps", 0), "sweeps 0"), (("turns", 0, ()), "turns 0 -"), (("turns", 0, (("a", 1), ("c", 2))), "turns 0 a:1,c:2"),
    (("rests",), "rests"), (("aside", 0, "cut", "mix"), "aside 0 cut mix"), (("apart", "mix", "cut"), "apart mix cut")]
NO_QUESTIONS = [
    "", "rests ", " rests", "rest", "rests 0", "stood 0 3 c", "stood 00 2 c", "stood 1 0 c", "stood 0 2", "stood 0 2 c c",
    "stood 0 2 x", "ran 0 0", "had 0 1 1 c", "had 0 0 2 c", "does cut", "does cut a", "does cut a:?", "does cut ..", "does cut a:2",
    "does cut c:0", "does cut a:1,", "run cut 0,1", "run cut 0,1,3", "run cut 0,1,2,0", "run cut -", "run cut 0,1,?", "same cut cut 0,1,2",
    "keeps cut 0,1,2 c,a", "keeps cut 0,1,2 a,a", "keeps cut 0,1,2", "keeps cut 0,1,2 x", "keeps cut 0,1,2 a,", "turns 0 c:2,a:1",
    "turns 0 a:1,a:1", "turns 0 a", "turns 0", "aside 0 cut cut", "still", "still a", "know rests", "moves cut 0,1,2 c 3", "Rests"]
LOG = (("set", "a", 0), ("run", "cut", (("a", 0),), (2,)))
BOOK = (LOG,)


class TextTest(unittest.TestCase):
    def test_programs(self):
        for step, program, text in PROGRAMS:
            self.assertEqual(show_program(WORK, step, program), text)
            self.assertEqual(read_program(WORK, step, text), program)
        self.assertEqual(show_program(TWO, "a", ("read", "b", (("end", (0, 1)), ("fail",), ("end", (1, 1))))), "b(0,1 fail 1,1)")
        self.assertEqual(read_program(work=TWO, step="a", text="b(0,1 fail 1,1)")[1], "b")
        # A file that is called fail.
        work = Work("file fail 2\nfile end 2\nstep read tree 1\n  reads fail\n  writes end")
        program = ("read", "fail", (("fail",), ("end", (1,))))
        self.assertEqual(show_program(work, "read", program), "fail(fail 1)")
        self.assertEqual(read_program(work, "read", "fail(fail 1)"), program)

    def test_what_is_no_program(self):
        many = 5000
        texts = NO_PROGRAMS + ["a(" * many, "(" * many, ")" * many, "a(2 " * many + "2" + ")" * many, "a(2 b(0 1" + ")" * many,
                               "2" * many, "0," * many, " " * many]
        for text in texts + [value for value in ANY if not isinstance(value, str)] + [CUT, ["a(2 2)"]]:
            self.assertEqual(told_of(self, BadText, read_program, WORK, "cut", text), 0, text)
        # None of the step: its claim, its kind, its sums.
        for text in ("fail", "a(0 0)", "c(0 1)", "c(0 1 fail)"):
            self.assertEqual(told_of(self, BadText, read_program, WORK, "mix", text), 0)
        self.assertEqual(told_of(self, BadText, read_program, TWO, "glue", "1"), 0)
        for value in ANY + ["a"]:
            self.assertIs(told_of(self, NoStep, read_program, WORK, value, "?"), value)
            self.assertIs(told_of(self, NoStep, show_program, WORK, value, None), value)
        for value in ANY + [MIX, list(CUT), CUT[:2], ("end", (3,)), ("end", (True,))]:
            if value != ("fail",):
                self.assertIs(told_of(self, BadProgram, show_program, WORK, "cut", value), value)

    def test_programs_by_chance(self):
        chance = random.Random(90)
        for text in SMALL + (MILL, WORDS):
            work = Work(text)
            for step in work.steps:
                if text == WORDS and step == "step":
                    continue
                programs = slow.programs_of(work, step)
                for program in chance.sample(programs, min(40, len(programs))):
                    told = show_program(work, step, program)
                    self.assertEqual(read_program(work, step, told), program)
                    for other in spoiled(chance, told):
                        self.only_as_written(lambda value: read_program(work, step, value),
                                             lambda value: show_program(work, step, value), other)

    def only_as_written(self, read, show, text):
        """A text is read just if it is written so."""
        try:
            value = read(text)
        except BadText as error:
            self.assertEqual(error.value, 0)
        else:
            self.assertEqual(show(value), text)

    def test_events(self):
        for event, text in EVENTS:
            self.assertEqual(show_event(TWO, event), text)
            self.assertEqual(read_event(TWO, text), event)
        for text in NO_EVENTS + [value for value in ANY if not isinstance(value, str)] + ["run a " + "..," * 9000]:
            self.assertEqual(told_of(self, BadText, read_event, TWO, text), 0, text)
        for value in ANY + [["set", "a", 1], ("set", "a", True), ("after", -1), ("reads", "a", (None,)), ("end", "a", ())]:
            self.assertIs(told_of(self, BadEvent, show_event, TWO, value), value)
        self.assertEqual(show_event(work=TWO, event=("begin", "a")), "begin a")
        self.assertEqual(read_event(work=TWO, text="begin a"), ("begin", "a"))

    def test_questions(self):
        for question, text in QUESTIONS:
            self.assertEqual(show_question(WORK, BOOK, question), text)
            self.assertEqual(read_question(WORK, BOOK, text), question)
        for text in NO_QUESTIONS + [value for value in ANY if not isinstance(value, str)] + ["run cut " + "0," * 9000]:
            self.assertEqual(told_of(self, BadText, read_question, WORK, BOOK, text), 0, text)
        for value in ANY + [("stood", 0, 3, "c"), ["rests"], ("rests", None)]:
            self.assertIs(told_of(self, BadQuestion, show_question, WORK, BOOK, value), value)
        for value in NO_BOOKS:
            self.assertIs(told_of(self, BadBook, read_question, WORK, value, None), value)
            self.assertIs(told_of(self, BadBook, show_question, WORK, value, None), value)
            self.assertIs(told_of(self, BadBook, show_book, WORK, value), value)
        self.assertEqual(read_question(work=WORK, book=BOOK, text="rests"), ("rests",))
        self.assertEqual(show_question(work=WORK, book=BOOK, question=("rests",)), "rests")

    def test_by_chance(self):
        chance = random.Random(91)
        for _ in range(300):
            work = Work(chance.choice(SMALL))
            book = chance_book(chance, work, 5)
            text = show_book(work, book)
            self.assertEqual(text.split("\n"), written(work, book))
            self.assertEqual(read_book(work, text), book)
            question = chance_question(chance, work, book)
            told = show_question(work, book, question)
            self.assertEqual(read_question(work, book, told), question)
            for other in spoiled(chance, told):
                self.only_as_written(lambda value: read_question(work, book, value),
                                     lambda value: show_question(work, book, value), other)
            for event in [event for log in book for event in log][:4]:
                for other in spoiled(chance, show_event(work, event)):
                    self.only_as_written(lambda value: read_event(work, value), lambda value: show_event(work, value), other)


def written(work, book):
    """The lines of a book."""
    return [line for log in book for line in ["log"] + ["  " + show_event(work, event) for event in log]]


def spoiled(chance, text):
    """Texts like this one, with signs and words left out, twice, put in or exchanged."""
    at = chance.randrange(len(text) + 1)
    words = text.split(" ")
    k = chance.randrange(len(words))
    sign = chance.choice(list("a0?*-.,:() b1\n+") + ["..", "00", "fail", " 0", "\n"])
    swapped = list(words)
    other = chance.randrange(len(words))
    swapped[k], swapped[other] = swapped[other], swapped[k]
    return [text[:at] + text[at + 1:], text[:at] + sign + text[at:], text[:at] + sign + text[at + 1:],
            text[:at] + text[at:at + 1] + text[at:], " ".join(words[:k] + words[k + 1:]), " ".join(swapped),
            " ".join(words[:k + 1] + words[k:]), text + " ", " " + text, text + "\n", text.replace("0", "00", 1)]


class BookTest(unittest.TestCase):
    def test_by_hand(self):
        book = (LOG, (("after", 0), ("begin", "cut"), ("reads", "cut", ())), (("beside", 1),))
        text = ("log\n  set a 0\n  run cut a:0 2\nlog\n  after 0\n  begin cut\n  reads cut -\nlog\n  beside 1")
        self.assertEqual(show_book(WORK, book), text)
        self.assertEqual(read_book(WORK, text), book)
        self.assertEqual(show_book(work=WORK, book=((), ())), "log\nlog")
        self.assertEqual(read_book(work=WORK, text="log\nlog"), ((), ()))

    def test_first_line_that_is_wrong(self):
        for text, line in [
                ("", 0), (" ", 0), ("log ", 0), ("  set a 0", 0), ("log\n", 1), ("\nlog", 0), ("log\n set a 0", 1),
                ("log\n   set a 0", 1), ("log\nset a 0", 1), ("log\n  set a 9\n  set", 1), ("log\n  set a 0\n\nlog", 2),
                ("log\n  set a 0 ", 1), ("Log", 0), ("log\n  log", 1), ("log\n  set a 0\n  end no *", 2), ("log\n  ", 1),
                # Each line is of a form, but this is no book: the number of lines.
                ("log\nlog\nlog\nlog", 4), ("log\n  end cut *", 2), ("log\n  after 0", 2), ("log\nlog\n  after 1", 3),
                ("log\nlog\n  set a 0\n  after 0", 4), ("log\nlog\n  beside 0\nlog\n  beside 0", 5),
                ("log\nlog\n  after 999999999", 3), ("log" + "\n  set a 0" * 21, 22), ("log\n  begin cut\n  begin cut", 3),
                ("log\n  begin cut\nlog\n  beside 0\n  begin cut", 5), ("log\nlog\n  after 1234567890", 2)]:
            self.assertEqual(told_of(self, BadText, read_book, WORK, text), line, text)
        self.assertEqual(len(read_book(WORK, "log" + "\n  set a 0" * 20)[0]), 20)
        for value in [value for value in ANY if not isinstance(value, str)] + [["log"], (LOG,)]:
            self.assertEqual(told_of(self, BadText, read_book, WORK, value), 0)


def chance_house(chance):
    """A house in which something came, and elder logs were told, by chance."""
    work, crew, stand = chance_mill(chance, SMALL)
    elders = ()
    if chance.random() < 0.6:
        links = chance_links(chance)
        links = links if len(links) < 3 else [None]
        elders = blotted(chance, Story(chance, work, crew, links, 3).book(), chance.choice([0, 0.3, 0.6]))
    house = House(Mill(work, crew, stand), book=elders)
    for _ in range(chance.randrange(9)):
        file, step = chance.choice(work.files), chance.choice(work.steps)
        word = chance.choice(["put", "look", "make", "turn", "renew", "undo", "blot"])
        if word == "put":
            house.put(file, chance.randrange(slow.sizes(work)[file]), is_noted=chance.random() < 0.6)
        elif word == "look":
            house.look(file)
        elif word == "make":
            house.make(step)
        elif word == "turn" and len(house.book) < 3:
            house.turn()
        elif word == "renew":
            house.renew(1, is_restoring=chance.random() < 0.5)
        elif word == "undo" and house.past:
            house.undo()
        elif word == "blot" and len(house.book) > 1 and house.book[0] and house.book[0][0][0] in ("set", "saw", "run"):
            house.blot((0, 0))
    return house


class HouseTest(unittest.TestCase):
    HEAD = MILL + "\ncrew a(2 b(0 fail))\ncrew c(0 1 1)\nstand 0,0,2\nmade 1\nlog"

    def test_by_hand(self):
        house = House(Mill(WORK, (CUT, MIX), (0, 0, 0)))
        house.make("cut")
        text = self.HEAD + "\n  run cut a:0 2"
        self.assertEqual(show_house(house), text)
        self.assertEqual(read_house(text), house)
        self.assertEqual(show_house(house=house), text)
        other = read_house(text=text)
        self.assertEqual((other.stand, other.book, other.made, other.work), (house.stand, house.book, 1, WORK))
        with self.assertRaises(Exception):
            other.undo()
        # The house that is read goes on.
        self.assertEqual(other.make("mix"), house.make("mix"))
        self.assertEqual(other, house)

    def test_written_and_read_back(self):
        chance = random.Random(92)
        for _ in range(200):
            house = chance_house(chance)
            text = show_house(house)
            lines = house.work.text.split("\n")
            lines += ["crew " + show_program(house.work, step, program) for step, program in zip(house.work.steps, house.mill.crew)]
            lines += ["stand " + ",".join(map(str, house.stand)), "made %d" % house.made] + written(house.work, house.book)
            self.assertEqual(text.split("\n"), lines)
            other = read_house(text)
            self.assertTrue(other == house)
            self.assertEqual(show_house(other), text)
            self.spoil(chance, house.work, lines)

    def spoil(self, chance, work, lines):
        """Lines left out, twice, exchanged, spoiled: just what is a house's text is read."""
        for _ in range(6):
            rows = list(lines)
            at = chance.randrange(len(rows))
            other = chance.randrange(len(rows))
            way = chance.randrange(5)
            if way == 0:
                del rows[at]
            elif way == 1:
                rows.insert(at, rows[at])
            elif way == 2:
                rows[at], rows[other] = rows[other], rows[at]
            elif way == 3:
                rows[at] = chance.choice(spoiled(chance, rows[at]))
            else:
                rows = rows[:at]
            text = "\n".join(rows)
            expected = self.expected(text)
            try:
                house = read_house(text)
            except (BadWork, BadText) as error:
                self.assertEqual((error.__class__.__name__, error.value), expected, text)
            else:
                self.assertIsNone(expected, text)
                self.assertEqual(show_house(house), text)

    def expected(self, text):
        """The error of a text, by the document's words; None if it is a house's."""
        lines = text.split("\n")
        first = next((k for k, line in enumerate(lines) if line.startswith("crew ")), len(lines))
        try:
            work = Work("\n".join(lines[:first]))
        except BadWork as error:
            return "BadWork", error.value
        at = first
        for step in work.steps:
            if at == len(lines) or not self.takes(lambda: read_program(work, step, lines[at][5:]), lines[at], "crew "):
                return "BadText", at
            at += 1
        rest = lines[at:]
        sizes = work.sizes
        if not rest or rest[0] not in ["stand " + ",".join(map(str, row)) for row in slow.stands_of(work)]:
            return "BadText", at
        made = rest[1][5:] if len(rest) > 1 and rest[1].startswith("made ") else ""
        if not (made.isascii() and made.isdigit() and str(int(made)) == made and len(made) < 10):
            return "BadText", at + 1
        self.assertTrue(sizes)
        try:
            book = read_book(work, "\n".join(rest[2:])) if rest[2:] else None
        except BadText as error:
            return "BadText", at + 2 + error.value
        if book is None or book[-1][:1] and book[-1][0][0] == "beside":
            return "BadText", len(lines)
        going = [event[1] for event in book[-1] if event[0] == "begin"]
        done = [event[1] for event in book[-1] if event[0] in ("end", "break")]
        return ("BadText", len(lines)) if len(going) > len(done) else None

    def takes(self, call, line, start):
        if not line.startswith(start):
            return False
        try:
            call()
        except BadText:
            return False
        return True

    def test_first_line_that_is_wrong(self):
        many = len(MILL.split("\n"))
        head = self.HEAD
        for text, error, line in [
                ("", BadWork, 0), ("crew 1", BadWork, 0), (head.replace("file a 2", "file a 5"), BadWork, 0), (MILL, BadText, many),
                (head.replace("crew", "Crew"), BadWork, many), (MILL + "\n", BadWork, many),
                (MILL + "\ncrew 1", BadText, many + 1), (MILL + "\ncrew c(0 0 0)\ncrew 9", BadText, many),
                (MILL + "\ncrew 1\ncrew 9", BadText, many + 1), (head.replace("crew c", "crow c"), BadText, many + 1),
                (head.replace("0,0,2", "0,0,3"), BadText, many + 2), (head.replace("0,0,2", "-"), BadText, many + 2),
                (head.replace("stand ", "stand  "), BadText, many + 2), (head.replace("made 1", "made 01"), BadText, many + 3),
                (head.replace("made 1", "made -1"), BadText, many + 3), (head.replace("made 1", "made"), BadText, many + 3),
                (head.replace("made 1", "made 1234567890"), BadText, many + 3), (head.replace("\nlog", ""), BadText, many + 4),
                (head.replace("\nlog", "\nlogs"), BadText, many + 4), (head + "\n", BadText, many + 5),
                (head + "\n  set a 9", BadText, many + 5), (head + "\n  begin cut", BadText, many + 6),
                (head + "\nlog\n  beside 0", BadText, many + 7), (head + "\nlog\nlog\nlog", BadText, many + 8),
                (head + "\n  after 0", BadText, many + 6), (head.replace(MILL, MILL + "\n  claim fails"), BadWork, many)]:
            self.assertEqual(told_of(self, error, read_house, text), line, text)
        for value in [value for value in ANY if not isinstance(value, str)]:
            self.assertEqual(told_of(self, BadWork, read_house, value), 0)
        for text in (head.replace("made 1", "made 999999999"), head.replace("made 1", "made 0"),
                     head + "\n  begin cut\nlog\n  after 0", head + "\nlog\n  beside 0\nlog",
                     head + "\n  set a 0\n  saw a 1"):
            self.assertEqual(show_house(read_house(text)), text)

    def test_what_is_no_house(self):
        house = House(Mill(WORK, (CUT, MIX), (0, 0, 0)))
        for value in ANY + [house.mill, WORK, house.book]:
            self.assertIs(told_of(self, BadHouse, show_house, value), value)
        house.begin("mix")
        self.assertIs(told_of(self, BadHouse, show_house, house), house)
        house.undo()
        self.assertEqual(show_house(house).split("\n")[-1], "log")


if __name__ == "__main__":
    unittest.main()
