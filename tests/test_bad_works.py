"""Promise 4: texts that are no works, and the line that is told."""

import unittest

from stepsunread.errors import BadWork
from stepsunread.works import Work
from tests.samples import ANY, MILL, told_of

LINES = MILL.split("\n")
SUMS = "file a %s\nfile b %s\nfile c %s\nfile d %s\nstep s sums %s\n  reads %s\n  writes %s"


class BadWorksTest(unittest.TestCase):
    def check(self, line, text):
        self.assertEqual(told_of(self, BadWork, Work, text), line, text)

    def other(self, line, words):
        """The mill with another line."""
        return "\n".join(LINES[:line] + [words] + LINES[line + 1:])

    def test_no_string(self):
        for value in ANY:
            self.check(0, value)
        self.assertEqual(told_of(self, BadWork, Work, text=MILL.split("\n")), 0)

    def test_lines_that_have_not_their_form(self):
        bad = {
            1: ["", " ", "file", "file b", "file 2", "b 2", "file b 2 2", "file file b 2", "2 b file", "file  b 2",
                " file b 2", "file b 2 ", "file b  2", "file\tb 2", "file b 2\r", "File b 2", "file B 2", "file b1 2",
                "file bbbbbbbbb 2", "file b- 2", "file b 1", "file b 5", "file b 02", "file b +2", "file b -2",
                "file b 2.0", "file b two", "file b 0000000002", "file b 1000000002", "file b " + "2" * 5000, "file b 0",
                "file \u00e9 2", "file b \u0662", "file b \u00b2", "file b,c 2", "file a 2", "  file b 2"],
            3: ["", "step", "step cut", "step cut tree", "step tree 2", "step cut 2 tree", "step cut tree 2 2",
                "step cut trees 2", "step cut Tree 2", "step cut tree 4", "step cut tree 02", "step cut tree -1",
                "step cut tree +1", "step cut tree", "step  cut tree 2", " step cut tree 2", "  step cut tree 2",
                "step cut tree 2 ", "step Cut tree 2", "step cuttingup tree 2", "step  tree 2", "steps cut tree 2",
                "file c 2", "  reads a b", "  writes c", "  claim ends", "step cut tree 0000000002"],
            4: ["", " ", "  ", "x y reads a b", " x reads a b", "x  reads a b", "  reads", "  reads ", "  reads a d", "  reads a a", "  reads a b ", "  reads  a b", " reads a b",
                "   reads a b", "reads a b", "  reads a  b", "  reads a,b", "  read a b", "  writes c", "  claim ends",
                "step mix flat 1", "file d 2", "  reads a b c a", "  reads a b c a b"],
            5: ["", "  writes", "  writes ", "  writes d", "  writes a", "  writes b", "  writes c c", "  writes c a",
                "  writes c d", "  writes  c", " writes c", "   writes c", "writes c", "  writes c ", "  reads a",
                "  claim ends", "step mix flat 1", "file d 2"],
            6: ["", "step cut flat 1", "  writes c", "  reads c", "file d 2", "  claim", "  claim ", "end"],
            8: ["  writes a c", "  writes c", "  writes b c"],
            9: ["", "  claim end", "  claim fail", "  claims ends", " claim ends", "  claim ends ", "  claim  ends",
                "  claim b", "  claim b = 2", "  claim b = 02", "  claim b = -1", "  claim b == 1", "  claim c = 1",
                "  claim b != 2", "  claim b =", "  claim = 1", "  claim b = 1 ends", "  claim if c = 0", "  claim ends ends",
                "  claim if c = 3 then ends", "  claim if b = 0 then ends", "  claim if a = 0 then ends",
                "  claim if d = 0 then ends", "  claim if c != 0 then ends", "  claim if c = 0 ends",
                "  claim then ends", "  claim if c = 0 then", "  claim if then ends", "  claim if c = 0 and then ends",
                "  claim if c = 0 and c = 0 then ends", "  claim if c = 0 and c = 1 then ends",
                "  claim if c = 0 or c = 1 then ends", "  claim if c = 0  then ends", "  claim if c = 00 then ends",
                "  claim c = 0 then ends", "  claim if c = 0 then b = 2", "  claim if c = 0 then c = 0",
                "  claim if c = 0 then ends and ends", "  reads c", "  writes b", "  fails"],
        }
        for line, rows in bad.items():
            for words in rows:
                self.check(line, self.other(line, words))

    def test_lines_left_out_twice_and_elsewhere(self):
        left_out = {0: 3, 1: 3, 2: 4, 3: 3, 4: 4, 5: 5, 6: 6, 7: 7, 8: 8}
        for line, told in left_out.items():
            self.check(told, "\n".join(LINES[:line] + LINES[line + 1:]))
        for line in range(9):
            self.check(line + 1, "\n".join(LINES[:line + 1] + LINES[line:]))
        self.assertEqual(Work(MILL + "\n  claim ends").claims("mix"), ("ends", "ends"))
        for line, told in ((2, 3), (3, 3), (4, 4), (5, 5), (6, 6), (7, 7), (8, 8)):
            swapped = LINES[:line] + [LINES[line + 1], LINES[line]] + LINES[line + 2:]
            self.check(told, "\n".join(swapped))

    def test_lines_more_or_less(self):
        self.check(0, "")
        self.check(0, "\n" + MILL)
        self.check(10, MILL + "\n")
        self.check(3, "\n".join(LINES[:3] + [""] + LINES[3:]))
        self.check(0, MILL.replace("\n", " "))
        self.check(0, MILL.replace("\n", "\r\n"))
        self.check(0, MILL.replace("\n", "\r"))
        self.check(0, " " + MILL)
        self.check(9, MILL + " ")
        self.check(0, "# " + MILL)

    def test_something_lacks_at_the_end(self):
        for many in (1, 2, 3, 4, 5, 7, 8):
            self.check(many, "\n".join(LINES[:many]))
        for many in (6, 9, 10):
            Work("\n".join(LINES[:many]))

    def test_lines_ahead_of_their_place(self):
        self.check(0, "step s tree 0\n  reads a\n  writes b")
        head = "file a 2\nfile b 2\nfile c 2\nfile d 2\nstep s tree 0\n"
        self.check(5, head + "  writes c\n  reads a")
        self.check(6, head + "  reads a\n  reads b\n  writes c")
        self.check(7, head + "  reads a\n  writes c\n  writes d")
        self.check(7, head + "  reads a\n  writes c\n  reads b")
        self.check(6, head + "  reads a\n  claim ends\n  writes c")
        self.check(7, head + "  reads a\n  writes c\nfile e 2")

    def test_words_of_conditions(self):
        head = "file a 2\nfile b 2\nfile c 2\nstep s tree 2\n  reads a b\n  writes c\n  claim "
        good = ["if a = 0 then ends", "if a = 0 and b = 1 then c = 0", "if b = 0 and a = 1 then fails"]
        for claim in good:
            self.assertEqual(Work(head + claim).claims("s"), (claim,))
            words = claim.split(" ")
            for at in range(len(words)):
                self.check(6, head + " ".join(words[:at] + words[at + 1:]))
                self.check(6, head + " ".join(words[:at] + words[at:at + 1] + words[at:]))
                for other in ("or", "when", "c", "a b", "7", "=", "", "then", "if", "and"):
                    if other != words[at]:
                        self.check(6, head + " ".join(words[:at] + [other] + words[at + 1:]))
                if at + 1 < len(words) and words[at:at + 2] != words[at:at + 2][::-1]:
                    self.check(6, head + " ".join(words[:at] + [words[at + 1], words[at]] + words[at + 2:]))

    def test_how_many_lines_there_are(self):
        files = ["file %s 2" % name for name in "abcdefg"]
        step = ["step %s tree 1", "  reads a", "  writes %s"]
        self.check(6, "\n".join(files + ["step s tree 1", "  reads a", "  writes b"]))
        text = "\n".join(files[:6])
        for at, name in enumerate("wxyz"):
            text += "\n" + "\n".join(step) % (name, "bcde"[at])
            if at < 3:
                Work(text)
        self.check(15, text)
        text = MILL + "\n  claim b != 1\n  claim if c = 2 then b = 0"
        self.assertEqual(len(Work(text).claims("mix")), 3)
        self.check(12, text + "\n  claim ends")
        head = "file a 2\nfile b 2\nfile c 2\nfile d 2\nfile e 2\nfile f 2\nstep s tree 1\n  reads "
        Work(head + "a b c d\n  writes e f")
        self.check(7, head + "a b c d e\n  writes f")
        self.check(8, head + "a\n  writes e f d")

    def test_names_that_stood_ahead(self):
        self.check(2, "file a 2\nfile b 2\nfile a 3\nstep s tree 9")
        self.check(5, "file a 2\nfile b 2\nstep a tree 0\n  reads a\n  writes b\nstep a tree 9")

    def test_files_that_are_written_twice_or_read_too(self):
        head = "file a 2\nfile b 2\nfile c 2\nfile d 2\nstep s tree 1\n  reads a b\n  writes c\n"
        self.check(9, head + "step t tree 1\n  reads a\n  writes c")
        self.check(9, head + "step t tree 1\n  reads a\n  writes d c")
        self.check(9, head + "step t tree 1\n  reads a\n  writes d a")
        Work(head + "step t tree 1\n  reads c\n  writes d a")

    def test_most_beside_the_files_that_are_read(self):
        for kind in ("tree", "row", "flat"):
            head = "file a 2\nfile b 2\nfile c 2\nstep s %s " % kind
            self.check(5, head + "2\n  reads a\n  writes c")
            self.check(5, head + "3\n  reads a b\n  writes c")
            self.check(4, head + "3\n  reads a d\n  writes c")
            self.check(5, head + "3\n  reads a b")
            Work(head + "2\n  reads a b\n  writes c")

    def test_sizes_of_sums(self):
        Work(SUMS % (2, 2, 2, 2, 3, "a b c", "d"))
        Work(SUMS % (3, 3, 3, 3, 2, "a b", "c d"))
        Work(SUMS % (3, 3, 3, 4, 2, "a b", "c"))
        for row in (
                (2, 2, 2, 2, 2, "a b c", "d"), (2, 2, 2, 2, 0, "a", "b"), (2, 2, 2, 2, 3, "a b", "c"),
                (4, 4, 4, 4, 2, "a b", "c d"), (2, 3, 2, 2, 2, "a b", "c"), (3, 3, 2, 3, 2, "a b", "c"),
                (3, 3, 3, 2, 2, "a b", "c d"), (2, 2, 2, 3, 2, "a b", "d"), (2, 2, 2, 2, 1, "a b", "c")):
            self.check(6, SUMS % row)
        self.check(6, (SUMS % (2, 2, 2, 2, 3, "a b c", "d")).replace("a b c", "a b c d").replace("s d", "s a"))

    def test_claims_with_which_there_is_no_program(self):
        head = "file a 2\nfile b 2\nfile c 3\nstep s %s %d\n  reads a b\n  writes c"
        cases = [
            ("tree", 0, ["c = 0", "c = 1"], 7), ("tree", 2, ["fails", "ends"], 7),
            ("tree", 0, ["if a = 0 then c = 0", "if a = 1 then c = 1"], 7),
            ("tree", 1, ["if a = 0 then c = 0", "if a = 1 then c = 1", "if b = 1 then c = 2"], 8),
            ("tree", 1, ["if a = 0 then c = 0", "if b = 0 then c = 1"], 7),
            ("row", 2, ["if a = 0 then c = 0", "if b = 0 then fails"], 7),
            ("tree", 2, ["c != 0", "c != 1", "c = 2"], None), ("tree", 2, ["c != 0", "c != 1", "c != 2"], None),
            ("tree", 2, ["c != 0", "c = 0", "nonsense"], 7),
            ("sums", 2, ["ends"], None), ("sums", 2, ["fails"], 6), ("sums", 2, ["if a = 0 then fails"], 6),
            ("flat", 1, ["if a = 0 then c = 0", "if b = 0 and a = 1 then c = 1", "if b = 1 and a = 1 then fails"], 8),
            ("flat", 2, ["if a = 0 then c = 0", "if b = 0 and a = 1 then c = 1", "if b = 1 and a = 1 then fails"], None),
            ("tree", 1, ["if b = 1 and a = 1 then c = 1", "if a = 0 and b = 1 then c = 0", "if b = 0 then fails"], 8),
            ("tree", 1, ["if b = 1 and a = 1 then c = 1", "if a = 0 and b = 1 then c != 0", "if b = 0 then fails"], None),
        ]
        for kind, most, claims, line in cases:
            text = head % (kind, most) + "".join("\n  claim " + claim for claim in claims)
            if kind == "sums":
                text = text.replace("file c 3", "file c 2")
            if line is None:
                self.assertEqual(Work(text).claims("s"), tuple(claims))
            else:
                self.check(line, text)
                self.check(line, text + "\nnonsense")

    def test_sums_that_no_claims_let_be(self):
        head = "file a 2\nfile b 2\nfile c 2\nstep s sums 2\n  reads a b\n  writes c"
        rows = ["if a = 0 and b = 0 then c = 0", "if a = 0 and b = 1 then c = 0", "if a = 1 then c = %d"]
        Work(head + "".join("\n  claim " + row for row in rows) % 1)
        rows[2] = "if a = 1 and b = 1 then c = 1"
        rows[1] = "if a = 0 then c = 0"
        rows[0] = "if b = 0 then c = 0"
        self.check(8, head + "".join("\n  claim " + row for row in rows))


if __name__ == "__main__":
    unittest.main()
