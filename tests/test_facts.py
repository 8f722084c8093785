"""Promises 3 (e) and 5: facts of all forms, held against going through all programs one by one."""

import random
import unittest

from stepsunread.programs import is_program, things, with_facts
from stepsunread.works import Work
from tests import reference
from tests.samples import ANY
from tests.test_programs import SMALL


def chance_way(chance, told):
    """A way by its form: files in any sequence, often one twice, or more than can be read."""
    files = [chance.choice(told["reads"]) for _ in range(chance.choice([0, 1, 1, 2, 2, 3]))]
    if told["kind"] == "sums" and chance.random() < 0.7:
        files = told["reads"][:len(files)]
    return tuple((file, chance.randrange(told["sizes"][file])) for file in files)


def chance_thing(chance, told):
    """A thing by its form."""
    word = chance.choice(["read", "read", "end", "end", "fail"])
    if word == "read":
        return word, chance.choice(told["reads"])
    if word == "fail":
        return (word,)
    return word, tuple(chance.randrange(told["sizes"][file]) for file in told["writes"])


class FactsOfAllForms(unittest.TestCase):
    def test_against_all_programs(self):
        chance = random.Random(70)
        for text, found in SMALL:
            work, told = Work(text), reference.step_told(text, "s")
            done = [reference.things_done(program) for program in found]
            for _ in range(6):
                facts = self.chance_facts(chance, told, done)
                rows = [row for row in done if all(row.get(way) == thing for way, thing in facts)]
                way = chance.choice([chance_way(chance, told), chance.choice(list(chance.choice(done)))])
                with self.subTest(text=text, facts=facts, way=way):
                    self.assertEqual(with_facts(work, "s", facts), len(rows))
                    expected = {row[way] for row in rows if way in row}
                    self.assertEqual(things(work, "s", facts, way), tuple(sorted(expected)))

    def chance_facts(self, chance, told, done):
        """Some facts of one program, some of another one, and some of none."""
        rows = [chance.choice(done), chance.choice(done)]
        facts = []
        for _ in range(chance.choice([0, 1, 2, 2, 3, 4])):
            kind = chance.random()
            if kind < 0.85:
                row = rows[0] if kind < 0.7 else rows[1]
                facts.append(chance.choice(list(row.items())))
            else:
                facts.append((chance_way(chance, told), chance_thing(chance, told)))
        return tuple(facts)

    def test_rows_and_flats_by_hand(self):
        files = "file a 2\nfile b 2\nfile c 2\nfile d 2\nstep s %s 2\n  reads a b c\n  writes d"
        row, flat, tree = [Work(files % kind) for kind in ("row", "flat", "tree")]
        unlike = ((((("a", 0),), ("read", "b"))), ((("a", 1),), ("read", "c")))
        self.assertEqual([with_facts(work, "s", unlike) for work in (row, flat, tree)], [0, 0, 3 ** 4])
        self.assertEqual([things(work, "s", unlike, ()) for work in (row, flat, tree)], [(), (), (("read", "a"),)])
        mixed = ((((("a", 0),), ("read", "b"))), ((("a", 1),), ("fail",)))
        self.assertEqual([with_facts(work, "s", mixed) for work in (row, flat, tree)], [9, 0, 9])
        self.assertEqual(things(flat, "s", mixed, ()), ())
        early = ((((("a", 0),), ("end", (1,)))), ((("a", 1), ("b", 0)), ("fail",)))
        self.assertEqual([with_facts(work, "s", early) for work in (row, flat, tree)], [3, 0, 3])
        deep = (((("a", 0), ("b", 0)), ("read", "c")),)
        self.assertEqual([with_facts(work, "s", deep) for work in (row, flat, tree)], [0, 0, 0])
        deeper = (((("a", 0), ("b", 0), ("c", 0)), ("end", (0,))),)
        self.assertEqual([with_facts(work, "s", deeper) for work in (row, flat, tree)], [0, 0, 0])
        self.assertEqual([things(work, "s", (), deeper[0][0]) for work in (row, flat, tree)], [(), (), ()])
        twice = (((("a", 0), ("a", 0)), ("end", (0,))),)
        self.assertEqual([with_facts(work, "s", twice) for work in (row, flat, tree)], [0, 0, 0])

    def test_facts_against_claims(self):
        text = "file a 2\nfile b 2\nfile d 2\nstep s %s 2\n  reads a b\n  writes d\n  claim if a = 0 then d = 0"
        for kind in ("tree", "row", "flat"):
            work = Work(text % kind)
            facts = (((("a", 0),), ("end", (1,))),)
            self.assertEqual((with_facts(work, "s", facts), things(work, "s", facts, ())), (0, ()))
            facts = (((("b", 0),), ("end", (1,))),)
            self.assertEqual((with_facts(work, "s", facts), things(work, "s", facts, ())), (0, ()))
            facts = (((("a", 1),), ("end", (1,))),)
            self.assertEqual(things(work, "s", facts, ()), (("read", "a"),))
        # A row that must read on along some ways alone, so that no flat program does it.
        text = ("file a 2\nfile b 2\nfile c 2\nfile d 2\nstep s row 2\n  reads a b c\n  writes d\n"
                "  claim if a = 0 and b = 0 then d = 0\n  claim if a = 0 and b = 1 then d = 1\n  claim ends")
        found = [reference.things_done(program) for program in reference.all_programs(text, "s")]
        facts = (((("a", 1),), ("end", (1,))),)
        rows = [row for row in found if row.get((("a", 1),)) == ("end", (1,))]
        self.assertEqual(with_facts(Work(text), "s", facts), len(rows))
        self.assertEqual(things(Work(text), "s", facts, (("a", 0),)), (("read", "b"),))

    def test_sums_that_fail_or_end_early(self):
        work = Work("file a 2\nfile b 2\nfile x 2\nstep add sums 2\n  reads a b\n  writes x")
        for way in ((), (("a", 0),), (("a", 0), ("b", 0))):
            self.assertEqual(with_facts(work, "add", ((way, ("fail",)),)), 0)
            self.assertEqual(things(work, "add", ((way, ("fail",)),), ()), ())
        for way in ((), (("a", 0),)):
            self.assertEqual(with_facts(work, "add", ((way, ("end", (0,))),)), 0)
        self.assertEqual(with_facts(work, "add", (((("b", 0),), ("read", "a")),)), 0)


class SumsByTheirForms(unittest.TestCase):
    WORK = Work("file a 2\nfile b 2\nfile x 2\nfile y 2\nstep add sums 2\n  reads a b\n  writes x y")

    def program(self, at=None, value=None):
        """A program, with another value at a place."""
        ends = {(a, b): ("end", ((a + b) % 2, 1)) for a in (0, 1) for b in (0, 1)}
        branches = {a: ("read", "b", (ends[a, 0], ends[a, 1])) for a in (0, 1)}
        if isinstance(at, tuple):
            ends[at] = value
            branches = {a: ("read", "b", (ends[a, 0], ends[a, 1])) for a in (0, 1)}
        elif at is not None:
            branches[at] = value
        return "read", "a", (branches[0], branches[1])

    def test_parts_otherwise(self):
        self.assertIs(is_program(self.WORK, "add", self.program()), True)
        end = ("end", (0, 0))
        bad = ANY + [("end",), ("end", (0,)), ("end", (0, 0, 0)), ("end", [0, 0]), ["end", (0, 0)], ("END", (0, 0)),
                     ("end", (0, 2)), ("end", (True, 0)), ("end", (0, 0), 0), ("fail",), ("read", "b", (end, end)),
                     ("read", "a", (end, end)), ("end", (1, 1)), ("end", (0, 0))]
        for value in bad:
            self.assertIs(is_program(self.WORK, "add", self.program((0, 0), value)), False, value)
        good = self.program()[2][0]
        bad = ANY + [end, ("read", "b", [end, end]), ["read", "b", (end, end)], ("read", "b", (end,)), ("read", "b", (end,) * 3),
                     ("read", "b", (end, end), 0), ("read", "a", good[2]), ("READ", "b", good[2]), good[:2],
                     ("read", "b", good[2] + (end,)), ("read", ["b"], good[2])]
        for value in bad:
            self.assertIs(is_program(self.WORK, "add", self.program(0, value)), False, value)
            self.assertIs(is_program(self.WORK, "add", value), False, value)


if __name__ == "__main__":
    unittest.main()
