"""Promises over the whole program: guarantees, names of files and steps, calls that change nothing."""

import copy
import random
import unittest

from stepsunread.acts import cheapest
from stepsunread.asking import ask, sure_facts
from stepsunread.clashes import clash
from stepsunread.counts import shares, worlds
from stepsunread.desk import Desk
from stepsunread.hiding import hidden, shows_hidden
from stepsunread.houses import House
from stepsunread.keys import key
from stepsunread.leaning import amends
from stepsunread.mills import Mill
from stepsunread.plans import shows_cheapest
from stepsunread.reading import read_book, read_event, read_house, read_program, read_question
from stepsunread.rounds import rounds
from stepsunread.since import since
from stepsunread.texts import show_book, show_event, show_house, show_program, show_question
from stepsunread.trees import shows_tree, tree
from stepsunread.works import Work
from stepsunread.worlds import fits, stands
from tests import slow
from tests.chances import chance_book, chance_question
from tests.samples import MILL
from tests.test_acts import TINY
from tests.test_houses import SMALL
from tests.test_mills import chance_mill

# Other names, in the same sequence of files and of steps, but not by the alphabet.
NAMES = {"a": "zeta", "b": "yes", "c": "fail", "d": "x", "e": "end", "x": "if", "y": "b", "z": "a", "cut": "two", "mix": "step",
         "add": "file", "two": "log", "p": "reads", "q": "o", "go": "cut"}


def renamed(value):
    """The value with other names."""
    if isinstance(value, tuple):
        return tuple(map(renamed, value))
    return NAMES.get(value, value) if isinstance(value, str) else value


def renamed_text(text):
    lines = []
    for line in text.split("\n"):
        words = line.split(" ")
        keyword = 0 if words[0] else 2
        lines.append(" ".join(words[:keyword + 1] + [NAMES.get(word, word) for word in words[keyword + 1:]]))
    return "\n".join(lines)


def renamed_question(question):
    """Words of questions stay as they are, and files ascend."""
    told = question[:1] + renamed(question[1:])
    if question[0] == "keeps":
        told = told[:3] + (tuple(sorted(told[3])),)
    if question[0] == "turns":
        told = told[:2] + (tuple(sorted(told[2])),)
    return told


def renamed_event(event):
    return event[:1] + renamed_notes(event[1:])


def renamed_notes(parts):
    """An end may be fail, which is no name here."""
    return tuple(part if part == "fail" else renamed(part) for part in parts)


def renamed_book(book):
    return tuple(tuple(renamed_event(event) for event in log) for log in book)


def renamed_answer(question, answer):
    if question[0] in ("ran", "run"):
        return renamed(answer[0]), answer[1]
    if question[0] == "does" and answer is not None and answer[0] == "read":
        return answer[0], renamed(answer[1])
    if question[0] == "turns" and answer is not None:
        return tuple(sorted(renamed(answer)))
    return answer


class NamesTest(unittest.TestCase):
    def test_all_tells_the_same_but_for_the_names(self):
        chance = random.Random(95)
        for _ in range(120):
            work = Work(chance.choice(SMALL))
            other = Work(renamed_text(work.text))
            book = chance_book(chance, work, 3)
            twin = renamed_book(book)
            question = chance_question(chance, work, book)
            asked = renamed_question(question)
            with self.subTest(text=work.text, book=book, question=question):
                self.assertEqual(worlds(work, book), worlds(other, twin))
                found = dict(shares(work, book, question))
                self.assertEqual({renamed_answer(question, answer): found[answer] for answer in found},
                                 dict(shares(other, twin, asked)))
                told = clash(work, book)
                self.assertEqual(told and told[0], told and clash(other, twin)[0])
                if sum(map(len, book)) <= 5:
                    self.assertEqual(amends(work, book)[0], amends(other, twin)[0])
                if told is None:
                    self.same_beyond(chance, work, other, book, twin, question, asked)

    def same_beyond(self, chance, work, other, book, twin, question, asked):
        for step in work.steps:
            facts = {(renamed(way), renamed_answer(("does",), thing)) for way, thing in sure_facts(work, book, step)}
            self.assertEqual(facts, set(sure_facts(other, twin, NAMES[step])))
            stand = tuple(chance.randrange(size) for size in work.sizes)
            prices = tuple(chance.choice([1, 2, 9]) for _ in work.reads(step))
            self.assertEqual(key(work, book, step, stand, prices)[0], key(other, twin, NAMES[step], stand, prices)[0])
        self.assertEqual(renamed(rounds(work, book, work.steps)[0]), rounds(other, twin, other.steps)[0])
        log = len(book) - 1
        if book[log][:1] and book[log][0][0] == "beside" or [event[0] for event in book[log]].count("begin") != sum(
                event[0] in ("end", "break") for event in book[log]):
            return
        prices = (2,) + (3,) * len(work.steps)
        told = cheapest(work, book, log, ("know", question), prices, 1)
        self.assertEqual(told[0], cheapest(other, twin, log, ("know", asked), prices, 1)[0])
        if told[0] == "plan":
            self.assertEqual(told[1], cheapest(other, twin, log, ("know", asked), prices, 1)[1])
        self.assertEqual(hidden(work, book, log, question) is None, hidden(other, twin, log, asked) is None)


class WholeTest(unittest.TestCase):
    def test_the_true_world(self):
        chance = random.Random(96)
        for _ in range(60):
            work, crew, stand = chance_mill(chance, SMALL)
            house = House(Mill(work, crew, stand))
            truth = Truth(work, crew, stand)
            for _ in range(chance.randrange(1, 9)):
                truth.deed(chance, house)
                world = truth.world()
                self.assertTrue(fits(work, house.book, world))
                self.assertEqual(stands(work, house.book, world)[-1][-1], house.stand)
                question = chance_question(chance, work, house.book)
                answer = slow.answer(work, house.book, world, question)
                self.assertIn(answer, house.answers(question))
                self.assertTrue(shows_tree(work, house.book, question, tree(work, house.book, question)))
                if not house.mill.under_way:
                    self.assertEqual(read_house(show_house(house)), house)

    def test_plans_gone_along_by_deeds(self):
        chance = random.Random(97)
        seen = 0
        for _ in range(60):
            work, crew, stand = chance_mill(chance, TINY)
            house = House(Mill(work, crew, stand))
            house.make(work.steps[0])
            question = chance_question(chance, work, house.book)
            prices = tuple(chance.choice([1, 2, 3]) for _ in range(1 + len(work.steps)))
            told = cheapest(work, house.book, 0, ("know", question), prices, 2)
            if told[0] == "none":
                self.assertIsNone(house.reach(("know", question), prices, 2))
                continue
            other = read_house(show_house(house))
            paid, plan = 0, told[2]
            while plan[0] == "act":
                _, act, rows = plan
                paid += prices[0] if act[0] == "look" else prices[1 + work.steps.index(act[2])]
                for file, content in zip(work.sources, act[1] if act[0] == "probe" else ()):
                    other.put(file, content)
                plan = dict(rows)[other.look(act[1]) if act[0] == "look" else other.make(act[2])]
            self.assertEqual(house.reach(("know", question), prices, 2), paid)
            self.assertEqual(house, other)
            self.assertLessEqual(paid, told[1])
            self.assertEqual(len(house.answers(question)), 1)
            seen += paid > 0
        self.assertGreater(seen, 10)

    def test_since_beside_deeds(self):
        chance = random.Random(98)
        for _ in range(40):
            work, crew, stand = chance_mill(chance, TINY)
            house = House(Mill(work, crew, stand))
            question = chance_question(chance, work, ((),), ("does", "uses", "run", "moves", "keeps", "rests"))
            known = [len(house.answers(question)) == 1]
            for _ in range(5):
                house.put(work.files[0], chance.randrange(2))
                known.append(len(house.answers(question)) == 1)
                house.make(work.steps[0])
                known.append(len(house.answers(question)) == 1)
            if known[-1]:
                self.assertEqual(since(work, house.book, 0, question)[0], known.index(True))
                self.assertTrue(all(known[known.index(True):]))

    def test_rounds_gone_along_in_mills(self):
        chance = random.Random(99)
        texts = [text for text in SMALL if text.count("step") > 1]
        for _ in range(60):
            work, crew, stand = chance_mill(chance, texts)
            house = House(Mill(work, crew, stand))
            house.renew(1)
            told = rounds(work, house.book, work.steps)[0]
            one, other = house.mill.copy(), house.mill.copy()
            for group in told:
                places = list(group) * 4
                for step in group:
                    one.begin(step)
                chance.shuffle(places)
                for step in places:
                    one.read_on(step)
                for step in chance.sample(group, len(group)):
                    one.finish(step)
            for step in work.steps:
                other.make(step)
            self.assertEqual(one.stand, other.stand)

    def test_counts_told_by_a_desk(self):
        chance = random.Random(94)
        for _ in range(40):
            work, crew, stand = chance_mill(chance, TINY)
            desk = Desk(House(Mill(work, crew, stand)))
            for _ in range(chance.randrange(6)):
                desk.say(chance.choice(["hide %s 1" % work.files[0], "make %s" % work.steps[0], "look %s" % work.files[-1], "turn"])
                         if len(desk.house.book) < 3 else "undo")
            self.assertEqual(desk.say("count"), str(len(slow.Survey(work, desk.house.book).fitting)))


class Truth:
    """What really comes in a house: the world that its book tells of."""

    def __init__(self, work, crew, stand):
        self.work, self.crew, self.first = work, crew, stand
        self.hands = [()]

    def world(self):
        return (self.crew, (self.first,) + ((),) * (len(self.hands) - 1), tuple(self.hands), ((),) * len(self.hands))

    def deed(self, chance, house):
        many = len(house.book[-1])
        file, step = chance.choice(self.work.files), chance.choice(self.work.steps)
        going = house.mill.under_way
        word = chance.choice(["put", "put", "hide", "look", "make", "begin", "on", "finish", "renew", "turn"])
        if word in ("put", "hide"):
            content = chance.randrange(slow.sizes(self.work)[file])
            house.put(file, content, is_noted=word == "put")
            self.hands[-1] += (content,)
            return
        if word == "look":
            house.look(file)
        elif word in ("make", "begin") and step not in going:
            getattr(house, word)(step)
        elif word == "on" and going:
            house.read_on(going[0])
        elif word == "finish" and going:
            house.finish(going[0])
        elif word == "renew" and not going and many < 10:
            house.renew(2, is_restoring=True)
            self.hands[-1] += tuple(event[2] for event in house.book[-1][many:] if event[0] == "set")
        elif word == "turn" and not going and len(house.book) < 3:
            house.turn()
            self.hands.append(())


class UnchangedTest(unittest.TestCase):
    def test_calls_change_nothing(self):
        book = ((("set", "a", 0), ("set", "b", None), ("run", "cut", (("a", 0),), (2,)), ("saw", "c", None)),)
        goal = ("have", ("run", "cut", (0, 0, 0)), ((("a", 0),), [2]))
        program = ("read", "a", (("end", (2,)), ("fail",)))
        for call, values in [
                (cheapest, (book, 0, goal, (1, 1, 1), 1)), (cheapest, (book, 0, ("all",), (1, 1, 1), 2)),
                (hidden, (book, 0, ("stood", 0, 0, "a"))), (show_program, ("cut", program)), (show_event, (book[0][2],)),
                (show_question, (book, goal[1])), (show_book, (book,)), (read_program, ("cut", "a(2 fail)")),
                (read_event, ("set a 1",)), (read_question, (book, "rests")), (read_book, ("log\n  set a 1",))]:
            work = Work(MILL)
            copies = copy.deepcopy(values)
            told = call(work, *values)
            kept = copy.deepcopy(told)
            self.assertEqual(values, copies)
            self.assertEqual(call(Work(MILL), *values), told)
            self.assertEqual(call(work, *values), told)
            if call is cheapest:
                self.assertIs(shows_cheapest(work, *values, told), True)
            if call is hidden:
                self.assertIs(shows_hidden(work, *values, told), True)
            self.assertEqual(told, kept)

    def test_asking_changes_no_house(self):
        work = Work(MILL)
        house = House(Mill(work, (("end", (0,)), ("end", (1,))), (0, 0, 0)))
        house.make("cut")
        ahead = show_house(house)
        for call in (lambda: house.word("mix"), lambda: house.answers(("rests",)), lambda: show_house(house),
                     lambda: Desk(house).say("count"), lambda: Desk(house).say("ask rests"),
                     lambda: house.reach(("all",), (1, 1, 1), 0), lambda: ask(work, house.book, ("rests",))):
            told = call()
            self.assertEqual(call(), told)
            self.assertEqual(show_house(house), ahead)


if __name__ == "__main__":
    unittest.main()
