"""The words of texts: names of 1 to 8 letters, numbers of at most 9 digits."""

import unittest

from stepsunread.words import is_name, number


class WordsTest(unittest.TestCase):
    def test_names(self):
        for word in ("a", "z", "file", "abcdefgh"):
            self.assertIs(is_name(word), True)
        for word in ("", "abcdefghi", "A", "aB", "a1", "1", " a", "a ", "a\n", "a-b", "\u00e9", "\u00df", "\u0430"):
            self.assertIs(is_name(word), False)

    def test_numbers(self):
        for word in ("0", "1", "10", "999999999", "100000000"):
            self.assertEqual(number(word), int(word))
        for word in ("", "00", "01", "1000000000", "-1", "+1", " 1", "1 ", "1.0", "1_0", "a", "\u0662", "\u00b2", "9" * 6000):
            self.assertEqual(number(word), -1)


if __name__ == "__main__":
    unittest.main()
