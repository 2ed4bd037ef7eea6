"""[5]: texts fall into words."""

import unittest

from helper import KEPT, asked_again, refusal
from leanscript.errors import NoText
from leanscript.words import words

SIGNS = "+ - * / ~ < > <= >= == != && || ! ? : . , = ( ) { } [ ] ;".split()


class Words(unittest.TestCase):

    def place(self, text):
        return refusal(self, NoText, words, text).at

    def only(self, text):
        return [word for _, word, _ in words(text)]

    def test_no_words(self):
        self.assertEqual(words(""), [])
        self.assertEqual(words(" \n\n  "), [])

    def test_each_sort(self):
        self.assertEqual(words("let x=12e3;"), [
            ("kept", "let", 0), ("name", "x", 4), ("sign", "=", 5), ("number", "12e3", 6), ("sign", ";", 10)])

    def test_blanks_and_line_ends(self):
        self.assertEqual(words("\n a \n\n b\n"), [("name", "a", 2), ("name", "b", 7)])
        self.assertEqual(words("a+b"), [("name", "a", 0), ("sign", "+", 1), ("name", "b", 2)])
        self.assertEqual(words(" a\n+ b "), [("name", "a", 1), ("sign", "+", 3), ("name", "b", 5)])

    def test_each_kept_word(self):
        for word in KEPT:
            self.assertEqual(words(word), [("kept", word, 0)])
            self.assertEqual(words(word + "s"), [("name", word + "s", 0)])
            self.assertEqual(words("x" + word), [("name", "x" + word, 0)])

    def test_each_sign(self):
        for sign in SIGNS:
            self.assertEqual(words(sign), [("sign", sign, 0)])
            self.assertEqual(words("a" + sign + "1"), [("name", "a", 0), ("sign", sign, 1), ("number", "1", 1 + len(sign))])

    def test_signs_are_as_long_as_can_be(self):
        self.assertEqual(self.only("==="), ["==", "="])
        self.assertEqual(self.only("<=="), ["<=", "="])
        self.assertEqual(self.only("!=="), ["!=", "="])
        self.assertEqual(self.only("!!="), ["!", "!="])
        self.assertEqual(self.only("=!="), ["=", "!="])
        self.assertEqual(self.only(">>="), [">", ">="])
        self.assertEqual(self.only("< ="), ["<", "="])
        self.assertEqual(self.only("&&&&||"), ["&&", "&&", "||"])

    def test_names_at_their_bound(self):
        self.assertEqual(words("abcdefghijkl"), [("name", "abcdefghijkl", 0)])
        self.assertEqual(self.place("abcdefghijklm"), 0)
        self.assertEqual(self.place("a; abcdefghijklm"), 3)
        self.assertEqual(self.only("az"), ["az"])

    def test_numbers(self):
        for text in ("0", "7", "10", "1e1", "1e9", "1e10", "1e17", "10e16", "120e15", "123456789012345678",
                     "12345678901234567e1", "1234567e11", "12345678e10"):
            self.assertEqual(words(text), [("number", text, 0)])

    def test_numbers_beyond_their_bound(self):
        for text in ("1234567890123456789", "1e18", "10e17", "123456789012345678e1", "12345678e11", "1e99"):
            self.assertEqual(self.place(text), 0)
            self.assertEqual(self.place("a+" + text), 2)

    def test_numbers_that_are_none(self):
        for text in ("00", "01", "007", "1e", "1e0", "1e00", "1e01", "0e1", "0e", "01e1", "1e100", "1e1e1", "5e3a", "12a", "1x"):
            self.assertEqual(self.place(text), 0, text)
            self.assertEqual(self.place(" " + text + ";"), 1, text)

    def test_figures_behind_names(self):
        for text in ("a1", "let1", "fn0", "ab1c"):
            self.assertEqual(self.place(text), 0)
            self.assertEqual(self.place("x " + text), 2)

    def test_documents_own(self):
        for text in ("1e", "01", "1e0", "1e100", "5e3a", "let1"):
            self.assertEqual(self.place(text), 0)
        self.assertEqual(self.place("aB"), 1)

    def test_signs_that_begin_nothing(self):
        for sign in "&|@#$^_\"'`\\ABZ" + chr(37):
            self.assertEqual(self.place(sign), 0)
            self.assertEqual(self.place("a " + sign), 2)
            self.assertEqual(self.place("1" + sign), 1)
        self.assertEqual(self.place("a&b"), 1)
        self.assertEqual(self.place("a|&&"), 1)
        self.assertEqual(self.place("a&&&b"), 3)
        self.assertEqual(self.place("a|||"), 3)

    def test_the_first_place_goes_first(self):
        self.assertEqual(self.place("a @ 01"), 2)
        self.assertEqual(self.place("a 01 @"), 2)
        self.assertEqual(self.place("(((( @"), 5)

    def test_long_texts(self):
        self.assertEqual(len(words("a " * 2000)), 2000)
        self.assertEqual(self.place(" " * 3999 + "A"), 3999)

    def test_by_name_and_again(self):
        self.assertEqual(words(text="a"), [("name", "a", 0)])
        asked_again(self, words, "let x = 12e3; f(x)")


if __name__ == "__main__":
    unittest.main()
