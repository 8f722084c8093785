"""Promises 3 (e) and 5: what programs are, how many there are, and what they do."""

import itertools
import random
import unittest

from stepsunread.errors import BadFacts, BadWay, NoStep
from stepsunread.programs import is_program, programs, things, with_facts
from stepsunread.works import Work
from tests import reference
from tests.samples import ANY, MILL, WORDS, YARD, told_of

FILES = "file a 2\nfile b 2\nfile c %d\nfile d 2\nstep s %s %d\n  reads %s\n  writes %s"
GREAT = "file a 4\nfile b 4\nfile c 4\nfile d 4\nfile e 4\nfile f 4\nstep s %s 3\n  reads a b c d\n  writes e f"


def small_works():
    """Texts of works with one step that has so few programs that all can be gone through."""
    shapes = [
        (2, 0, "a b", "c"), (2, 1, "a b", "c"), (3, 1, "b a", "d c"), (2, 2, "a b", "c"), (3, 2, "b a", "c"),
        (2, 1, "c a", "b d"), (2, 2, "c a b", "d"), (3, 1, "c", "a b"),
    ]
    claims = [
        [], ["ends"], ["fails"], ["if {0} = 0 then fails"], ["{1} != 0"], ["if {0} = 1 then {1} = 1", "{1} != 0"],
        ["if {0} = 1 then {1} != 1", "if {0} = 0 then {1} = 1"],
        ["if {0} = 1 and {2} = 0 then {1} = 1", "if {2} = 1 then fails", "if {2} = 0 then ends"],
        ["if {2} = 0 then {1} = 0", "if {0} = 1 and {2} = 1 then {1} != 0"],
    ]
    for kind, (size, most, reads, writes), rows in itertools.product(("tree", "row", "flat"), shapes, claims):
        yield claimed(FILES % (size, kind, most, reads, writes), rows)
    for size, reads, writes in ((2, "a b", "c"), (2, "a", "c d"), (2, "b", "d")):
        for rows in claims:
            yield claimed(FILES % (size, "sums", len(reads.split()), reads, writes), rows)
    three = "file a 3\nfile c 3\nfile d 3\nstep s sums 1\n  reads a\n  writes d c"
    for rows in ([], ["ends"], ["if a = 2 then d = 1"], ["if a = 1 then c != 0", "if a = 2 then d != 1", "c != 2"]):
        yield claimed(three, rows)


def claimed(text, claims):
    told = reference.step_told(text, "s")
    first, last, written = told["reads"][0], told["reads"][-1], told["writes"][0]
    if first == last:
        claims = [claim for claim in claims if "{2}" not in claim]
    return text + "".join("\n  claim " + claim.format(first, written, last) for claim in claims)


def small():
    """(text, all programs of its step) for each of them that is a work."""
    rows = []
    for text in dict.fromkeys(small_works()):
        found = reference.all_programs(text, "s")
        if found:
            rows.append((text, found))
    return rows


SMALL = small()


class IsProgramTest(unittest.TestCase):
    def test_all_programs_and_no_others(self):
        for text, found in SMALL:
            work = Work(text)
            known = set(found)
            told = reference.step_told(text, "s")
            for program in reference.trees(dict(told, most=min(2, told["most"]))):
                self.assertIs(is_program(work, "s", program), program in known, (text, program))

    def test_parts_otherwise(self):
        work = Work(MILL)
        end = ("end", (0,))
        read_b = ("read", "b", (end, ("fail",)))
        good = ("read", "a", (read_b, ("end", (2,))))
        self.assertIs(is_program(work, "cut", good), True)
        bad = [
            ("read", "a", [read_b, end]), ["read", "a", (read_b, end)], ("read", "a", (read_b,)),
            ("read", "a", (read_b, end, end)), ("read", "a"), ("read", "a", (read_b, end), ()), ("read", "c", (end,) * 3),
            ("read", "d", (end, end)), ("read", 0, (end, end)), ("read", None, (end, end)), ("read", ["a"], (end, end)),
            ("read", "a", ()), ("read", "a", None), ("READ", "a", (end, end)), (None, "a", (end, end)),
            ("read", "a", (("read", "a", (end, end)), end)), ("read", "a", (end, None)), ("read", "a", (end, "fail")),
            ("end", (True,)), ("end", [0]), ("end", (3,)), ("end", (-1,)), ("end", ()), ("end", (0, 0)), ("end", 0),
            ("end", (None,)), ("end",), ("end", (0,), 0), ["end", (0,)], ("end", ("0",)), "fail", ("fail", 0), ["fail"],
            ("fail", ()), ("fails",), ("read", "a", (("end", (True,)), end)), ("read", "a", (("end", [0]), end)),
        ]
        for value in bad + ANY:
            self.assertIs(is_program(work, "cut", value), value == ("fail",), value)
        self.assertIs(is_program(work, "mix", ("fail",)), False)
        self.assertIs(is_program(work, "mix", ("read", "c", (("end", (0,)),) * 3)), True)
        self.assertIs(is_program(work, "mix", ("read", "c", (("end", (0,)),) * 2)), False)

    def test_the_only_program(self):
        work = Work("file a 2\nfile b 2\nstep s tree 1\n  reads a\n  writes b\n  claim if a = 0 then fails\n"
                    "  claim if a = 1 then b = 0")
        only = ("read", "a", (("fail",), ("end", (0,))))
        self.assertEqual(programs(work, "s"), 1)
        self.assertIs(is_program(work, "s", only), True)
        for value in ANY + [only[:2], list(only), ("read", "a", (("fail",), ("end", (1,)))), ("end", (0,)), ("read", "a", ())]:
            self.assertIs(is_program(work, "s", value), False)

    def test_how_deep(self):
        text = "file a 2\nfile b 2\nfile c 2\nfile d 2\nstep s %s %d\n  reads a b c\n  writes d"
        end = ("end", (1,))
        deep = [end]
        for file in "cba":
            deep.append(("read", file, (deep[-1], deep[-1])))
        for kind in ("tree", "row", "flat"):
            for most in range(4):
                work = Work(text % (kind, most))
                for depth, program in enumerate(deep):
                    self.assertIs(is_program(work, "s", program), depth <= most, (kind, most, depth))
        self.assertEqual([is_program(Work(text % ("sums", 3)), "s", x) for x in deep], [False] * 3 + [True])

    def test_very_deep_values(self):
        value = ("end", (0,))
        for _ in range(50000):
            value = ("read", "a", (value, value))
        self.assertIs(is_program(Work(MILL), "cut", value), False)
        self.assertIs(is_program(Work(MILL), "cut", ("read", "b", (("fail",), value))), False)

    def test_kinds_at_places_of_equal_depth(self):
        text = "file a 2\nfile b 2\nfile c 2\nfile d 2\nstep s %s 2\n  reads a b c\n  writes d"
        end, other = ("end", (1,)), ("end", (0,))
        b, c = ("read", "b", (end, other)), ("read", "c", (end, ("fail",)))
        cases = [
            (("read", "a", (b, c)), "tree"), (("read", "a", (b, end)), "tree row"),
            (("read", "a", (b, b)), "tree row flat"), (("read", "a", (end, other)), "tree row flat"),
            (("fail",), "tree row flat"), (("read", "a", (b, ("read", "b", (("fail",), end)))), "tree row flat"),
        ]
        for program, kinds in cases:
            for kind in ("tree", "row", "flat"):
                self.assertIs(is_program(Work(text % kind), "s", program), kind in kinds, (kind, program))

    def test_sums_that_are_asked_of_each_file(self):
        text = "file a 3\nfile b 3\nfile c 3\nfile d 3\nstep s sums 2\n  reads b a\n  writes c d"
        work = Work(text)

        def program(first, second, order="ba"):
            rows = tuple(tuple(("end", (first(b, a) % 3, second(b, a) % 3)) for a in range(3)) for b in range(3))
            return ("read", order[0], tuple(("read", order[1], row) for row in rows))

        fair = lambda b, a: 2 + b + 2 * a
        for other in (lambda b, a: 0, lambda b, a: a, lambda b, a: 2 * b + 2 * a + 1):
            self.assertIs(is_program(work, "s", program(fair, other)), True)
            self.assertIs(is_program(work, "s", program(other, fair)), True)
            self.assertIs(is_program(work, "s", program(fair, other, "ab")), False)
        for other in (lambda b, a: a * b, lambda b, a: a * a, lambda b, a: max(a, b), lambda b, a: int(a == b == 2)):
            self.assertIs(is_program(work, "s", program(fair, other)), False)
            self.assertIs(is_program(work, "s", program(other, fair)), False)
        broken = program(fair, fair)
        failing = ("read", "b", broken[2][:2] + (("read", "a", (("fail",),) * 3),))
        self.assertIs(is_program(work, "s", broken), True)
        self.assertIs(is_program(work, "s", failing), False)

    def test_no_step(self):
        work = Work(MILL)
        for value in ANY + ["a", work]:
            self.assertIs(told_of(self, NoStep, is_program, work, value, ("fail",)), value)
            self.assertIs(told_of(self, NoStep, programs, work, value), value)
        self.assertIs(is_program(value=("fail",), step="cut", work=work), True)


class CountsTest(unittest.TestCase):
    def test_example(self):
        work = Work(MILL)
        fact = ((("c", 1),), ("end", (0,)))
        self.assertEqual([programs(work, "cut"), programs(work, "mix")], [804, 10])
        self.assertEqual(with_facts(work, "mix", (fact,)), 4)
        self.assertEqual(things(work, "mix", (fact,), ()), (("read", "c"),))
        self.assertEqual(programs(step="cut", work=work), 804)
        self.assertEqual(things(way=(), facts=(fact,), step="mix", work=work), (("read", "c"),))
        self.assertEqual(with_facts(facts=(fact,), step="mix", work=work), 4)

    def test_small_ones_by_going_through_all(self):
        self.assertGreater(len(SMALL), 150)
        for text, found in SMALL:
            self.assertEqual(programs(Work(text), "s"), len(found), text)

    def test_other_works(self):
        for text, step in ((YARD, "a"), (YARD, "glue"), (WORDS, "ends"), (MILL, "cut"), (MILL, "mix")):
            self.assertEqual(programs(Work(text), step), len(reference.all_programs(text, step)), (text, step))

    def test_greatest(self):
        n0 = 17
        two, four = n0 + 2 * n0 ** 4, n0 + n0 ** 4
        one = n0 + 3 * two ** 4
        self.assertEqual(programs(Work(GREAT % "tree"), "s"), n0 + 4 * one ** 4)
        rows = [n0, four, n0 + four ** 4, n0 + (n0 + four ** 4) ** 4]
        row = n0 + 4 * (rows[1] - rows[0]) + 12 * (rows[2] - rows[1]) + 24 * (rows[3] - rows[2])
        self.assertEqual(programs(Work(GREAT % "row"), "s"), row)
        self.assertEqual(programs(Work(GREAT % "flat"), "s"), 17 + 4 * 17 ** 4 + 12 * 17 ** 16 + 24 * 17 ** 64)
        facts = ((("b", 2),), ("fail",)), ((), ("read", "b"))
        self.assertEqual(with_facts(Work(GREAT % "tree"), "s", facts), one ** 3)
        self.assertEqual(with_facts(Work(GREAT % "flat"), "s", facts), 17 ** 3)
        self.assertEqual(
            with_facts(Work(GREAT % "row"), "s", facts),
            n0 ** 3 + 3 * (four ** 3 - n0 ** 3) + 6 * ((n0 + four ** 4) ** 3 - four ** 3))
        deep = ((("a", 0), ("b", 1), ("c", 2)), ("end", (3, 0)))
        self.assertEqual(with_facts(Work(GREAT % "tree"), "s", (deep,)), n0 ** 3 * two ** 3 * one ** 3)
        self.assertEqual(with_facts(Work(GREAT % "flat"), "s", (deep,)), 17 ** 63)

    def test_greatest_with_claims(self):
        work = Work(GREAT % "flat" + "\n  claim if a = 0 then e = 0")
        expected = 4 + 4 * 17 ** 3 + 3 * 4 ** 4 + 6 * 4 ** 4 * 17 ** 12 + 6 * 4 ** 16
        expected += 18 * 4 ** 16 * 17 ** 48 + 6 * 4 ** 64
        self.assertEqual(programs(work, "s"), expected)
        work = Work(GREAT % "tree" + "\n  claim ends\n  claim e != 3\n  claim f = 2")
        n0 = 3
        one = n0 + 3 * (n0 + 2 * n0 ** 4) ** 4
        self.assertEqual(programs(work, "s"), n0 + 4 * one ** 4)

    def test_sums(self):
        text = "file a {0}\nfile b {0}\nfile c {0}\nfile d {0}\nfile e {0}\nstep s sums 3\n  reads a c b\n  writes e d"
        self.assertEqual(programs(Work(text.format(2)), "s"), 16 ** 2)
        self.assertEqual(programs(Work(text.format(3)), "s"), 81 ** 2)
        work = Work(text.format(3) + "\n  claim if a = 0 and b = 2 then e = 1\n  claim if c = 1 then d != 2")
        # e: c has no weight, and the others make 1; d: a and b have no weight where c is 1.
        self.assertEqual(programs(work, "s"), 9 * 6)
        fact = ((("a", 0), ("c", 2), ("b", 1)), ("end", (0, 1)))
        self.assertEqual(with_facts(Work(text.format(3)), "s", (fact,)), 27 ** 2)
        self.assertEqual(with_facts(Work(text.format(3)), "s", (fact, ((), ("read", "a")))), 27 ** 2)
        self.assertEqual(with_facts(Work(text.format(3)), "s", (fact, ((), ("read", "b")))), 0)
        self.assertEqual(with_facts(Work(text.format(3)), "s", (((), ("fail",)),)), 0)
        self.assertEqual(with_facts(Work(text.format(3)), "s", (((("a", 0),), ("read", "b")),)), 0)
        self.assertEqual(with_facts(Work(text.format(3)), "s", (((("a", 0),), ("end", (0, 0))),)), 0)
        self.assertEqual(with_facts(Work(text.format(3)), "s", (((("c", 0),), ("read", "a")),)), 0)
        swapped = ((("c", 2), ("a", 0), ("b", 1)), ("end", (0, 1)))
        self.assertEqual(with_facts(Work(text.format(3)), "s", (swapped,)), 0)
        self.assertEqual(with_facts(Work(text.format(3)), "s", (((("b", 0),), ("read", "c")),)), 0)
        self.assertEqual(things(Work(text.format(3)), "s", (), (("a", 2), ("c", 1))), (("read", "b"),))
        self.assertEqual(things(Work(text.format(3)), "s", (), (("a", 2), ("b", 1))), ())


class FactsTest(unittest.TestCase):
    def test_small_ones_by_going_through_all(self):
        chance = random.Random(5)
        for text, found in SMALL:
            work = Work(text)
            done = [reference.things_done(program) for program in found]
            for _ in range(4):
                chosen = chance.sample(done, min(len(done), chance.choice((1, 1, 2))))
                facts = [fact for one in chosen for fact in chance.sample(sorted(one.items()), min(2, len(one)))]
                facts = tuple(facts[:chance.randrange(4)])
                held = [one for one in done if all(one.get(way) == thing for way, thing in facts)]
                self.assertEqual(with_facts(work, "s", facts), len(held), (text, facts))
                for way in chance.sample(sorted(set(way for one in done for way in one)), 1) + [()]:
                    told = tuple(sorted(set(one[way] for one in held if way in one)))
                    self.assertEqual(things(work, "s", facts, way), told, (text, facts, way))

    def test_all_facts_of_a_program_and_one_otherwise(self):
        for text, found in SMALL[::7]:
            work = Work(text)
            for program in found[::5]:
                facts = tuple(reference.things_done(program).items())
                self.assertEqual(with_facts(work, "s", facts), 1)
                self.assertEqual(with_facts(work, "s", facts + facts[::-1]), 1)
                for way, thing in facts:
                    self.assertEqual(things(work, "s", facts, way), (thing,))

    def test_one_place_tells_of_others(self):
        text = "file a 2\nfile b 2\nfile c 2\nfile d 2\nstep s %s 2\n  reads a b c\n  writes d"
        fact = ((("b", 0),), ("read", "c"))
        way = (("b", 1),)
        ends = (("end", (0,)), ("end", (1,)), ("fail",))
        self.assertEqual(things(Work(text % "tree"), "s", (fact,), way), ends + (("read", "a"), ("read", "c")))
        self.assertEqual(things(Work(text % "row"), "s", (fact,), way), ends + (("read", "c"),))
        self.assertEqual(things(Work(text % "flat"), "s", (fact,), way), (("read", "c"),))
        ended = ((("b", 0),), ("fail",))
        self.assertEqual(things(Work(text % "flat"), "s", (ended,), way), ends)
        self.assertEqual(things(Work(text % "row"), "s", (ended,), way), ends + (("read", "a"), ("read", "c")))
        self.assertEqual(things(Work(text % "tree"), "s", (fact,), ()), (("read", "b"),))

    def test_sums_tell_of_other_places(self):
        text = "file a 2\nfile b 2\nfile c 2\nstep s sums 2\n  reads a b\n  writes c"
        ways = [(("a", a), ("b", b)) for a in range(2) for b in range(2)]
        facts = tuple((way, ("end", (int(k == 3),))) for k, way in enumerate(ways))
        self.assertEqual([with_facts(Work(text), "s", facts[:k]) for k in range(5)], [8, 4, 2, 1, 0])
        self.assertEqual(things(Work(text), "s", facts[:3], ways[3]), (("end", (0,)),))
        self.assertEqual(things(Work(text), "s", facts[:2], ways[3]), (("end", (0,)), ("end", (1,))))
        self.assertEqual(things(Work(text), "s", facts, ways[3]), ())

    def test_claims_that_make_it_read(self):
        text = "file a 2\nfile b 2\nfile c 2\nstep s tree 1\n  reads a b\n  writes c\n  claim if b = 0 then c = 0"
        work = Work(text + "\n  claim if b = 1 then c != 0")
        self.assertEqual(things(work, "s", (), ()), (("read", "b"),))
        self.assertEqual(things(work, "s", (), (("b", 1),)), (("end", (1,)), ("fail",)))
        self.assertEqual(things(work, "s", (), (("a", 1),)), ())
        self.assertEqual(things(Work(text), "s", (), (("a", 1),)), (("end", (0,)),))

    def test_ways_that_no_program_comes_to(self):
        work = Work(MILL)
        read_a = ((), ("read", "a"))
        cases = [
            ((), (("a", 0), ("a", 0))), ((), (("a", 0), ("b", 0), ("a", 1))), ((read_a,), (("b", 0),)),
            ((((), ("fail",)),), (("a", 0),)), ((read_a, ((), ("read", "b"))), ()), ((read_a, ((), ("fail",))), ()),
            (((((("a", 0), ("a", 1))), ("fail",)),), ()), ((((("b", 0),), ("read", "b")),), ()),
            ((((("a", 0), ("b", 0)), ("read", "a")),), ()), ((read_a, ((("b", 0),), ("fail",))), (("a", 0),)),
        ]
        for facts, way in cases:
            self.assertEqual(things(work, "cut", facts, way), (), (facts, way))
        self.assertEqual(with_facts(work, "cut", (((("a", 0), ("a", 0)), ("fail",)),)), 0)
        self.assertEqual(with_facts(work, "cut", (((("a", 0), ("b", 1), ("a", 0), ("b", 0), ("a", 1)), ("fail",)),)), 0)
        self.assertEqual(with_facts(work, "mix", (((("c", 0), ("c", 1)), ("end", (0,))),)), 0)
        self.assertEqual(with_facts(work, "mix", (((), ("fail",)),)), 0)

    def test_ascending(self):
        text = "file z 2\nfile a 2\nfile m 2\nfile q 3\nstep s tree 1\n  reads z a m\n  writes q"
        told = (("end", (0,)), ("end", (1,)), ("end", (2,)), ("fail",), ("read", "a"), ("read", "m"), ("read", "z"))
        self.assertEqual(things(Work(text), "s", (), ()), told)

    def test_bad_facts_and_ways(self):
        work = Work(MILL)
        good = ((), ("read", "a"))
        bad_ways = [
            [], (("a", 2),), (("a", -1),), (("a", True),), (("a", None),), (("c", 0),), (("d", 0),), (["a", 0],),
            (("a",),), (("a", 0, 0),), ("a", 0), (("a", 0), None), "a", None, {"a": 0}, ((0, "a"),), ((None, 0),)]
        bad_things = [
            (), ("read",), ("read", "c"), ("read", "a", ()), ["read", "a"], ("read", 0), ("end",), ("end", (3,)),
            ("end", ()), ("end", (0, 0)), ("end", [0]), ("end", (True,)), ("end", (None,)), ("end", 0), ("fail", ()),
            "fail", ["fail"], ("break",), None, 0, ("end", (0,), 1), (None,),
            ("break", (0,)), ("End", (0,)), (None, (0,))]
        bad = [(good, way_fact) for way_fact in [(way, ("fail",)) for way in bad_ways]]
        bad += [(good, ((), thing)) for thing in bad_things]
        bad += [[], [good], good, (good, list(good)), (good, good[:1]), (good, good + (0,)), None, "", 0]
        bad += [value for value in ANY if value != ()]
        for value in bad:
            self.assertIs(told_of(self, BadFacts, things, work, "cut", value, None), value)
            self.assertIs(told_of(self, BadFacts, with_facts, work, "cut", value), value)
            self.assertIs(told_of(self, NoStep, things, work, "cat", value, None).__class__, str)
        for value in bad_ways + [value for value in ANY if value != ()]:
            self.assertIs(told_of(self, BadWay, things, work, "cut", (good,), value), value)
            self.assertEqual(told_of(self, NoStep, things, work, ["cut"], (good,), value), ["cut"])
        self.assertIs(told_of(self, NoStep, with_facts, work, True, None), True)

    def test_nothing_that_is_passed_is_changed(self):
        work = Work(MILL)
        before = {name: repr(held) for name, held in vars(work).items() if name != "parts"}
        facts = [((), ("read", "a"))]
        for _ in range(2):
            self.assertEqual(with_facts(work, "cut", tuple(facts)), 400)
            self.assertEqual(programs(work, "cut"), 804)
            told_of(self, BadFacts, with_facts, work, "cut", facts)
        self.assertEqual(facts, [((), ("read", "a"))])
        self.assertEqual({name: repr(held) for name, held in vars(work).items() if name != "parts"}, before)


if __name__ == "__main__":
    unittest.main()
