"""Promise 7: which values are logs and books."""

import itertools
import unittest

from stepsunread.books import is_book, is_log
from stepsunread.works import Work
from tests import reference
from tests.samples import ANY, MILL, YARD, nested

# In the yard, the step a reads a 2 and b 3, and writes c 2 and d 2; glue reads c, and writes e 2.
BEGIN, END, STOP = ("begin", "a"), ("end", "a", None), ("break", "a", ())
RUN, GLUE = ("run", "a", (), None), ("run", "glue", (), None)


class EventsTest(unittest.TestCase):
    def check(self, log, expected):
        work = Work(YARD)
        self.assertIs(is_log(work, log), expected, log)
        self.assertIs(is_book(work, (log,)), expected, log)

    def test_set_and_saw(self):
        for word in ("set", "saw"):
            for good in ((word, "a", 0), (word, "b", 2), (word, "e", None), (word, "c", 1)):
                self.check((good,), True)
            for bad in (
                    (word,), (word, "a"), (word, "a", 0, 0), (word, "a", 2), (word, "b", 3), (word, "a", -1),
                    (word, "a", True), (word, "b", "0"), (word, "glue", 0), (word, None, 0), (word, 0, 0), (word, None, None),
                    (word, "a", (0,)), [word, "a", 0], (word.upper(), "a", 0), (word, ["a"], 0), (word, "a", [0])):
                self.check((bad,), False)

    def reads_of(self, reads):
        """Logs in which the step a has these reads."""
        return (("run", "a", reads, None),), (BEGIN, ("reads", "a", reads))

    def test_reads(self):
        good = [
            (), (("a", 0),), (("a", 1), ("b", 2)), (("a", None),), ((None, 3),), ((None, 0),), ((None, None),),
            (("a", 0), ("a", 1), ("a", 0), ("a", 0)), ((None, None),) * 4]
        for reads in good:
            for log in self.reads_of(reads):
                self.check(log, True)
        bad = [
            None, [], (("a", 2),), (("b", 3),), (("a", -1),), (("c", 0),), (("e", None),), ((None, 4),), ((None, -1),),
            ((None, True),), (("a", True),), (("a",),), (("a", 0, 0),), ("a", 0), (["a", 0],), ((),), ("",), (0,), "",
            (("a", 0),) * 5, ((None, None),) * 5, ((0, "a"),), (("a", "0"),), ((["a"], 0),), {}, ((True, 0),)]
        for reads in bad:
            for log in self.reads_of(reads):
                self.check(log, False)

    def test_gaps(self):
        for reads in ((None,), (None, ("a", 0)), (None, None, None, None), (("b", None), None, (None, 1))):
            whole, parts = self.reads_of(reads)
            self.check(whole, True)
            self.check(parts, False)
        self.check(self.reads_of((None,) * 5)[0], False)

    def test_ends(self):
        for end in (None, "fail", (0, 1), (None, 1), (1, None), (None, None)):
            self.check((("run", "a", (None,), end),), True)
            self.check((BEGIN, ("end", "a", end)), True)
        for end in ("fails", (0,), (0, 1, 0), (2, 0), (0, -1), (True, 0), [0, 1], (0, "1"), ("fail",), (), 0, True, "", (None,)):
            self.check((("run", "a", (None,), end),), False)
            self.check((BEGIN, ("end", "a", end)), False)
        self.check((("run", "glue", (), (1,)),), True)
        self.check((("run", "glue", (), (None,)),), True)
        self.check((("run", "glue", (), (1, 1)),), False)

    def test_breaks(self):
        for wrote in ((), (0,), (1,), (None,)):
            self.check((BEGIN, ("break", "a", wrote)), True)
        for wrote in (None, (2,), (-1,), (True,), (0, 1), (None, None), (0, None), [], [0], "fail", 0, ("0",), {}):
            self.check((BEGIN, ("break", "a", wrote)), False)
        begin = ("begin", "glue")
        self.check((begin, ("break", "glue", ())), True)
        self.check((begin, ("break", "glue", (0,))), False)
        self.check((begin, ("break", "glue", (None,))), False)

    def test_parts_left_out_and_more(self):
        good = [("run", "a", (), None), BEGIN, ("reads", "a", ()), ("end", "a", None), ("break", "a", ())]
        for event in good:
            ahead = () if event[0] in ("run", "begin") else (BEGIN,)
            self.check(ahead + (event,), True)
            for bad in (event[:-1], event + (None,), list(event), event[:1], (event[0].title(),) + event[1:],
                        (event[0], "b") + event[2:], (event[0], None) + event[2:], (event[0], ["a"]) + event[2:],
                        (None,) + event[1:], ([event[0]],) + event[1:]):
                self.check(ahead + (bad,), False)
        for event in ANY + [("stop", "a"), ("fail", "a"), ("", "a"), ("saw",), ("look", "a"), (1, "a", 0)]:
            self.check((event,), False)

    def test_values_of_any_kind(self):
        work = Work(MILL)
        for value in ANY + [MILL, work, [("set", "a", 0)], ("set", "a", 0), {"set": "a"}, nested(tuple, 2000)]:
            self.assertIs(is_log(work, value), value == (), value)
            self.assertIs(is_book(work, value), value == ((), ()), value)
        self.assertIs(is_log(value=(("set", "a", 0),), work=work), True)
        self.assertIs(is_book(value=((("set", "a", 0),),), work=work), True)

    def test_twenty_events(self):
        row = (("saw", "a", 0),) * 19
        self.check(row + (RUN,), True)
        self.check(row + (RUN, RUN), False)
        work = Work(YARD)
        self.assertIs(is_book(work, ((), (("after", 0),) + row)), True)
        self.assertIs(is_book(work, ((), (("after", 0),) + row + row[:1])), False)
        self.assertIs(is_book(work, ((), (("beside", 0),) + row)), True)
        self.assertIs(is_book(work, ((), (("beside", 0),) + row + row[:1])), False)

    def test_how_many_logs(self):
        work = Work(YARD)
        self.assertEqual([is_book(work, ((),) * many) for many in range(5)], [False, True, True, True, False])
        self.assertIs(is_book(work, [()]), False)
        self.assertIs(is_book(work, ([],)), False)
        self.assertIs(is_book(work, ((), None)), False)
        self.assertIs(is_book(work, ((RUN,), (RUN,), (RUN, RUN))), True)
        self.assertIs(is_book(work, ((RUN,), (RUN,), (RUN, END))), False)

    def test_while_a_run_is_under_way(self):
        reads = ("reads", "a", (("a", 0),))
        other = (("begin", "glue"), ("end", "glue", None))
        good = [
            (BEGIN,), (BEGIN, END), (BEGIN, STOP, RUN), (BEGIN, END, BEGIN), (BEGIN, reads, reads, END),
            (BEGIN, reads, ("set", "a", 1), reads, ("break", "a", (0,))), (BEGIN, GLUE, END), (BEGIN,) + other,
            (BEGIN, other[0], END, other[1]), (BEGIN, other[0]), (BEGIN, ("saw", "b", 1), STOP, BEGIN, reads), (RUN, RUN),
            (BEGIN, STOP, BEGIN, STOP)]
        for log in good:
            self.check(log, True)
        bad = [
            (BEGIN, BEGIN), (BEGIN, RUN), (END,), (STOP,), (reads,), (RUN, END), (RUN, reads), (BEGIN, END, END),
            (BEGIN, STOP, STOP), (BEGIN, END, reads), (BEGIN, STOP, END), (BEGIN, reads, BEGIN), (BEGIN, GLUE, RUN),
            (BEGIN, other[1]), (("begin", "glue"), END), (BEGIN, other[0], END, END), (BEGIN, other[0], BEGIN)]
        for log in bad:
            self.check(log, False)


class LinksTest(unittest.TestCase):
    def test_not_in_logs_by_themselves(self):
        work = Work(YARD)
        for word in ("after", "beside"):
            for number in (-1, 0, 1, 2):
                self.assertIs(is_log(work, ((word, number),)), False)
                self.assertIs(is_log(work, (RUN, (word, number))), False)

    def test_as_first_event_and_elsewhere(self):
        work = Work(YARD)
        for word in ("after", "beside"):
            link = (word, 0)
            self.assertIs(is_book(work, ((), (link,))), True)
            self.assertIs(is_book(work, ((), (link, RUN))), True)
            for log in ((RUN, link), (link, link), (link, RUN, link), (link, ("after", 0)), (link, ("beside", 0)), link):
                self.assertIs(is_book(work, ((), log)), False, log)
            for bad in ((word,), (word, None), (word, False), (word, "0"), (word, 0, 0), [word, 0], (word, -1), (word, (0,)),
                        (word, [0]), (word.title(), 0)):
                self.assertIs(is_book(work, ((), (bad,))), False, bad)

    def test_numbers_of_logs(self):
        work = Work(YARD)
        for word in ("after", "beside"):
            for at in range(3):
                for number in range(-1, 4):
                    book = tuple(((word, number),) if k == at else () for k in range(3))
                    self.assertIs(is_book(work, book), 0 <= number < at, book)

    def test_after_and_beside_in_one_book(self):
        work = Work(YARD)
        links = [None] + [(word, number) for word in ("after", "beside") for number in range(2)]
        for one, other in itertools.product(links, links):
            book = ((RUN,), (RUN,) if one is None else (one, RUN), (RUN,) if other is None else (other, RUN))
            self.assertIs(is_book(work, book), is_fair_row([None, one, other]), book)

    def test_chains(self):
        work = Work(YARD)
        after, beside = ("after", 0), ("beside", 0)
        self.assertIs(is_book(work, ((RUN,), (after, RUN), (("beside", 1), RUN))), True)
        self.assertIs(is_book(work, ((RUN,), (beside, RUN), (("after", 1), RUN))), True)
        self.assertIs(is_book(work, ((RUN,), (beside, RUN), (after, RUN))), True)
        self.assertIs(is_book(work, ((RUN,), (after, RUN), (beside, RUN))), True)
        self.assertIs(is_book(work, ((RUN,), (after, RUN), (after, RUN))), True)
        self.assertIs(is_book(work, ((RUN,), (beside, RUN), (beside, RUN))), False)
        self.assertIs(is_book(work, ((RUN,), (beside, RUN), (("beside", 1), RUN))), False)

    def test_a_run_under_way_at_the_end_of_a_log(self):
        work = Work(YARD)
        self.assertIs(is_book(work, ((BEGIN,), (("after", 0), BEGIN, END))), True)
        self.assertIs(is_book(work, ((BEGIN,), (("after", 0), RUN))), True)
        self.assertIs(is_book(work, ((BEGIN,), (("after", 0), END))), False)
        self.assertIs(is_book(work, ((BEGIN,), (END,))), False)
        self.assertIs(is_book(work, ((BEGIN,), (("beside", 0), END))), False)

    def test_pairs_with_and_without_a_weaving(self):
        work = Work(YARD)
        link = ("beside", 0)
        self.assertIs(is_book(work, ((BEGIN,), (link, RUN))), True)
        self.assertIs(is_book(work, ((RUN, BEGIN), (link, RUN, BEGIN))), False)
        self.assertIs(is_book(work, ((BEGIN,), (link, BEGIN))), False)
        self.assertIs(is_book(work, ((BEGIN,), (link, BEGIN, END))), True)
        self.assertIs(is_book(work, ((BEGIN, ("begin", "glue")), (link, GLUE, RUN))), True)
        crossed = (("begin", "glue"), RUN, ("end", "glue", None))
        self.assertIs(is_book(work, ((BEGIN, GLUE, END), (link,) + crossed)), True)
        self.assertIs(is_book(work, ((BEGIN, GLUE), (link, ("begin", "glue"), RUN))), False)
        self.assertIs(is_book(work, ((BEGIN, GLUE), (link,) + crossed)), True)

    def test_pairs_by_going_through_all_weavings(self):
        work = Work(YARD)
        events = [BEGIN, END, RUN, ("begin", "glue"), ("end", "glue", (0,)), GLUE]
        logs = [log for many in range(4) for log in itertools.product(events, repeat=many) if is_log(work, log)]
        told = []
        for one, other in itertools.product(logs, logs):
            book = (one, (("beside", 0),) + other)
            told.append(is_book(work, book))
            self.assertIs(told[-1], bool(reference.weavings(other, one)), book)
        self.assertGreater(told.count(True), 500)
        self.assertGreater(told.count(False), 50)


def is_fair_row(links):
    """Whether no log is in two pairs, nor beside or after itself or a later one."""
    paired = []
    for at, link in enumerate(links):
        if link is not None and link[1] >= at:
            return False
        if link is not None and link[0] == "beside":
            paired += [at, link[1]]
    return len(set(paired)) == len(paired)


if __name__ == "__main__":
    unittest.main()
