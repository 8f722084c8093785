"""Section 16, as far as the sequence of answers hangs on it: the texts of answers."""

import unittest

from stepsunread.wording import answer_text, by_text

DOES = ("does", "cut", ())


class WordingTest(unittest.TestCase):
    def test_texts(self):
        cases = [
            (DOES, ("read", "a"), "read a"), (DOES, ("end", (0, 2)), "end 0,2"), (DOES, ("fail",), "fail"), (DOES, None, "*"),
            (("run", "cut", (0,)), ((), "fail"), "- fail"),
            (("ran", 0, 0), ((("a", 0), ("b", 1)), (2, 0)), "a:0,b:1 2,0"),
            (("wrote", 0, 0, "a"), (1, 12), "1 12"), (("wrote", 0, 0, "a"), None, "*"),
            (("would", 0, "cut"), (1, 0), "1,0"), (("would", 0, "cut"), "fail", "fail"),
            (("turns", 0, ()), (), "-"), (("turns", 0, ()), ("cut", "mix"), "cut,mix"), (("turns", 0, ()), None, "*"),
            (("rests",), True, "yes"), (("rests",), False, "no"), (("sweeps", 0), 0, "0"), (("sweeps", 0), 10, "10"),
            (("sweeps", 0), None, "*"), (("stood", 0, 0, "a"), 3, "3")]
        for question, answer, text in cases:
            self.assertEqual(answer_text(question, answer), text)

    def test_sequences(self):
        self.assertEqual(by_text(("rests",), [True, False]), [False, True])
        self.assertEqual(by_text(("sweeps", 0), [2, 11, 0, None, 9, 1]), [None, 0, 1, 11, 2, 9])
        self.assertEqual(by_text(("wrote", 0, 0, "a"), [(0, 2), (1, 0), None, (0, 11)]), [None, (0, 11), (0, 2), (1, 0)])
        self.assertEqual(by_text(DOES, [("read", "a"), ("fail",), None, ("end", (1,))]),
                         [None, ("end", (1,)), ("fail",), ("read", "a")])
        self.assertEqual(by_text(("turns", 0, ()), [("mix",), ("cut", "mix"), (), None, ("cut",)]),
                         [None, (), ("cut",), ("cut", "mix"), ("mix",)])


if __name__ == "__main__":
    unittest.main()
