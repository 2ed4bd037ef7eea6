"""[20]: names supplied."""

import itertools
import unittest

from helper import KEPT, asked_again, refusal
from leanscript.errors import NoCount, NoLetters
from leanscript.supply import supply

ALL = "abcdefghijklmnopqrstuvwxyz"
NO_LETTERS = ("", "a", "aa", "aba", "abca", "aB", "AB", "a1", "12", "a b", "ab ", "a\n", "a_", "a.b", ALL + "a", ALL + "A", "\u00e4b",
              None, True, 0, 2, (), ("a", "b"), [], ["a", "b"], {"a": 1, "b": 2})


def names_of(letters, many):
    """The names of letters by the document's words."""
    told = []
    for size in range(1, 13):
        if len(told) >= many:
            break
        told.extend(x for x in map("".join, itertools.product(letters, repeat=size)) if x not in KEPT)
    return told[:many]


class Supply(unittest.TestCase):

    def test_told_by_hand(self):
        self.assertEqual(supply("ab", 9), ["a", "b", "aa", "ab", "ba", "bb", "aaa", "aab", "aba"])
        self.assertEqual(supply("ba", 6), ["b", "a", "bb", "ba", "ab", "aa"])
        self.assertEqual(supply("zxy", 5), ["z", "x", "y", "zz", "zx"])
        self.assertEqual(supply(ALL, 30), [*ALL, "aa", "ab", "ac", "ad"])

    def test_kept_words_are_left_out(self):
        self.assertEqual(supply("if", 6), ["i", "f", "ii", "fi", "ff", "iii"])
        self.assertEqual(supply("fn", 6), ["f", "n", "ff", "nf", "nn", "fff"])
        self.assertEqual(supply("nf", 6), ["n", "f", "nn", "nf", "ff", "nnn"])
        for word in KEPT:
            letters = "".join(dict.fromkeys(word + "ab"))
            self.assertNotIn(word, supply(letters, 400))
        self.assertNotIn("let", supply("letab"[:3], 60))
        for letters in ("let", "out", "try", "elsit", "ifn"):
            self.assertEqual(supply(letters, 400), names_of(letters, 400))

    def test_any_letters_and_counts(self):
        for letters in ("ab", "ba", "if", "fn", "xyz", "outry", "letfnif"[:5], "qwertyuiop", ALL, ALL[::-1], ALL[:13]):
            for many in (0, 1, 2, 3, 26, 27, 50, 399, 400):
                told = supply(letters, many)
                self.assertIs(type(told), list)
                self.assertEqual(told, names_of(letters, many), letters)

    def test_no_letters(self):
        for letters in NO_LETTERS:
            for many in (0, 3, 400):
                refusal(self, NoLetters, supply, letters, many)

    def test_no_counts(self):
        for many in (-1, 401, 10 ** 29, -10 ** 29, True, False, None, "", "1", (), (1,), [], [1]):
            refusal(self, NoCount, supply, "ab", many)

    def test_no_letters_ahead_of_no_count(self):
        for many in (-1, 401, True, None):
            refusal(self, NoLetters, supply, "a", many)

    def test_again_and_by_name(self):
        asked_again(self, supply, "ab", 20)
        self.assertEqual(supply(many=3, letters="ab"), ["a", "b", "aa"])


if __name__ == "__main__":
    unittest.main()
