"""Promise 2: calls change nothing that is passed, and equal calls return equal results."""

import copy
import unittest

from stepsunread.asking import ask, is_sure, shows_answers, sure_facts
from stepsunread.clashes import clash, grounds, shows_clash, shows_grounds
from stepsunread.counts import shares, worlds
from stepsunread.keys import key, shows_key
from stepsunread.leaning import amends, lean, shows_amends, shows_lean
from stepsunread.rounds import rounds, shows_rounds
from stepsunread.since import shows_since, since
from stepsunread.trees import shows_tree, tree
from stepsunread.works import Work
from tests.samples import MILL

BOOK = ((("set", "a", 0), ("set", "b", None), ("run", "cut", (("a", 0),), (2,)), ("saw", "c", None)),)
BAD = BOOK[:1] + ((("set", "a", 0), ("run", "cut", (), (2,))),)
QUESTION = ("run", "cut", (0, 0, 0))
KEYED = ("cut", (0, 0, 0), (1, 2))


def told(work):
    """All that a work tells."""
    rows = [work.text, work.files, work.sizes, work.steps, work.kinds, work.mosts, work.sources]
    for step in work.steps:
        rows.append((work.reads(step), work.writes(step), work.claims(step)))
    return rows, [work.maker(file) for file in work.files]


class UnchangedTest(unittest.TestCase):
    def test_all_of_them(self):
        work = Work(MILL)
        before = copy.deepcopy(told(work))
        calls = [
            (tree, (BOOK, QUESTION), {"left": ((0, 0),)}, shows_tree), (tree, (BOOK, None), {}, shows_tree),
            (ask, (BOOK, QUESTION), {}, shows_answers), (ask, (BAD, QUESTION), {}, shows_answers),
            (is_sure, (BOOK, QUESTION), {}, None), (sure_facts, (BOOK, "cut"), {}, None),
            (worlds, (BOOK,), {"left": ((0, 0), (0, 2))}, None), (shares, (BOOK, ("still", 0)), {}, None),
            (clash, (BOOK,), {}, shows_clash), (clash, (BAD,), {}, shows_clash), (grounds, (BOOK, QUESTION), {}, shows_grounds),
            (amends, (BOOK,), {}, shows_amends), (amends, (BAD,), {}, shows_amends),
            (lean, (BOOK, (QUESTION, ("still", 0))), {"given": ((0, 1),)}, shows_lean),
            (since, (BOOK, 0, QUESTION), {}, shows_since), (key, (BOOK,) + KEYED, {}, shows_key),
            (rounds, (BOOK, ("mix", "cut")), {}, shows_rounds)]
        for call, values, named, shows in calls:
            with self.subTest(call=call.__name__, values=values):
                copies = copy.deepcopy((values, named))
                found = call(work, *values, **named)
                self.assertEqual((values, named), copies)
                self.assertEqual(told(work), before)
                kept = copy.deepcopy(found)
                self.assertEqual(call(Work(MILL), *values, **named), found)
                self.assertEqual(call(work, *values, **named), found)
                if shows is not None:
                    self.assertIs(shows(work, *values, found, **named), True)
                    self.assertIs(shows(Work(MILL), *values, found, **named), True)
                self.assertEqual(found, kept)
                self.assertEqual((values, named), copies)

    def test_values_of_all_kinds_stay(self):
        work = Work(MILL)
        for value in ([["gives", None]], {"a": [1]}, ("at", ["first", 0, "a"], [("gives", None)] * 2), [((0, 0),)]):
            kept = copy.deepcopy(value)
            for shows, values in ((shows_tree, (BOOK, None)), (shows_answers, (BOOK, QUESTION)), (shows_clash, (BAD,)),
                                  (shows_grounds, (BOOK, QUESTION)), (shows_amends, (BAD,)), (shows_lean, (BOOK, (QUESTION,))),
                                  (shows_since, (BOOK, 0, QUESTION)), (shows_key, (BOOK,) + KEYED),
                                  (shows_rounds, (BOOK, ("cut", "mix")))):
                self.assertIs(shows(work, *values, value), False)
            self.assertEqual(value, kept)

    def test_by_names(self):
        work = Work(MILL)
        self.assertEqual(worlds(work=work, book=BOOK, left=()), worlds(work, BOOK))
        self.assertEqual(shares(work=work, book=BOOK, question=QUESTION), shares(work, BOOK, QUESTION))
        found = ask(work=work, book=BOOK, question=QUESTION)
        self.assertIs(shows_answers(work=work, book=BOOK, question=QUESTION, value=found), True)
        self.assertIs(is_sure(work=work, book=BOOK, question=QUESTION), True)
        self.assertEqual(sure_facts(work=work, book=BOOK, step="cut"), sure_facts(work, BOOK, "cut"))
        self.assertIs(shows_clash(work=work, book=BAD, value=clash(work=work, book=BAD)), True)
        found = grounds(work=work, book=BOOK, question=QUESTION)
        self.assertIs(shows_grounds(work=work, book=BOOK, question=QUESTION, value=found), True)
        self.assertIs(shows_amends(work=work, book=BAD, value=amends(work=work, book=BAD)), True)
        found = lean(work=work, book=BOOK, questions=(QUESTION,), given=())
        self.assertIs(shows_lean(work=work, book=BOOK, questions=(QUESTION,), value=found, given=()), True)
        found = since(work=work, book=BOOK, log=0, question=QUESTION)
        self.assertIs(shows_since(work=work, book=BOOK, log=0, question=QUESTION, value=found), True)
        found = key(work=work, book=BOOK, step="cut", stand=(0, 0, 0), prices=(1, 2))
        self.assertIs(shows_key(work=work, book=BOOK, step="cut", stand=(0, 0, 0), prices=(1, 2), value=found), True)
        found = rounds(work=work, book=BOOK, steps=("cut",))
        self.assertIs(shows_rounds(work=work, book=BOOK, steps=("cut",), value=found), True)


if __name__ == "__main__":
    unittest.main()
