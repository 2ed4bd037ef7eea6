"""[28], [30]: maps, and their texts."""

import random
import unittest

from helper import asked_again, refusal
from leanscript.errors import NoMap, NoText
from leanscript.maps import after, is_map, lead, map_text, read_map
from leanscript.words import words

TEXT = "let a = 12;\nout a+1"
OTHER = "let long = 12; out long + 1"
# Nine words: let, a, =, 12, ;, out, a, +, 1.
ROWS = [(0, 3, 0, 13), (4, 5, 4, 8), (6, 7, 0, 13), (8, 10, 11, 13), (10, 11, 0, 27), (12, 15, 15, 27), (16, 17, 19, 23), (17, 18, 19, 27), (18, 19, 26, 27)]
SIGNS = "0123456789abcdefghijklmnopqrstuv"


def in_32(number):
    """A number from 0 on in base 32."""
    return (in_32(number // 32) if number > 31 else "") + SIGNS[number % 32]


def written(rows):
    """The text of a map, by the document's words."""
    told = []
    for at, row in enumerate(rows):
        ahead = rows[at - 1] if at else (0, 0, 0, 0)
        numbers = [one - other for one, other in zip(row, ahead)]
        told.append(" ".join("-" * (number < 0) + in_32(abs(number)) for number in numbers))
    return ";".join(told)


def map_at_random(rng, great):
    """A map that read_map may tell."""
    end = 0
    told = []
    for _ in range(rng.randint(0, 12)):
        begin = end + rng.randint(0, great)
        end = begin + rng.randint(1, great)
        first = rng.randint(0, great)
        told.append((begin, end, first, first + rng.choice((0, 1, rng.randint(0, great)))))
    return told


class IsMap(unittest.TestCase):

    def judged(self, so, thing, text=TEXT, other=OTHER):
        self.assertIs(is_map(thing, text, other), so, thing)

    def test_maps(self):
        self.judged(True, ROWS)
        self.judged(True, [(*row[:2], 0, len(OTHER)) for row in ROWS])
        self.judged(True, [(*row[:2], 0, 0) for row in ROWS])
        self.judged(True, [(*row[:2], len(OTHER), len(OTHER)) for row in ROWS])
        self.judged(True, [(*row[:2], 5, 5) for row in ROWS])
        self.judged(True, [(at, at + len(word), at, at + len(word)) for _, word, at in words(TEXT)], TEXT, TEXT)
        self.judged(True, [(0, 1, 0, 0)], "a", "")

    def test_texts_without_words(self):
        for text in ("", " ", "\n \n"):
            self.judged(True, [], text)
            self.judged(True, [], text, "")
            self.judged(False, [(0, 0, 0, 0)], text)
            self.judged(False, [(0, 1, 0, 1)], text)

    def test_the_other_text_need_be_none_of_words(self):
        self.judged(True, [(0, 1, 0, 3)], "a", "?\t#")

    def test_entries_out_twice_exchanged(self):
        for at in range(len(ROWS)):
            self.judged(False, ROWS[:at] + ROWS[at + 1:])
            self.judged(False, ROWS[:at + 1] + ROWS[at:])
            self.judged(False, ROWS[:at] + [ROWS[at]] * 2 + ROWS[at + 2:] if at < 8 else ROWS + [ROWS[8]])
        for at in range(len(ROWS) - 1):
            self.judged(False, ROWS[:at] + [ROWS[at + 1], ROWS[at]] + ROWS[at + 2:])
        self.judged(False, [])
        self.judged(False, ROWS[::-1])

    def test_other_places(self):
        for at, (begin, end, first, last) in enumerate(ROWS):
            for row in ((begin + 1, end, first, last), (begin, end + 1, first, last), (begin - 1, end, first, last), (begin, end - 1, first, last),
                        (begin + 1, end + 1, first, last), (end, begin, first, last), (begin, begin, first, last)):
                self.judged(False, ROWS[:at] + [row] + ROWS[at + 1:])

    def test_other_stretches(self):
        for at, (begin, end, _, _) in enumerate(ROWS):
            for first, last in ((1, 0), (5, 4), (-1, 4), (-2, -1), (0, 28), (28, 28), (27, 28), (0, 10 ** 20), (10 ** 20, 10 ** 20)):
                self.judged(False, ROWS[:at] + [(begin, end, first, last)] + ROWS[at + 1:])

    def test_other_kinds(self):
        for thing in (None, True, 0, "", "ab", (), {}, tuple(ROWS), [None], [[]], [()]):
            self.judged(False, thing)
        for at, row in enumerate(ROWS):
            for other in (list(row), (*row, 0), row[:3], (), None, 7, "abcd", (*row[:3], None), (*row[:3], str(row[3])), (None, *row[1:]), (row,), ((), *row[1:])):
                self.judged(False, ROWS[:at] + [other] + ROWS[at + 1:])
        self.judged(False, [(False, 1, 0, 1)], "a", "ab")
        self.judged(False, [(0, True, 0, 1)], "a", "ab")
        self.judged(False, [(0, 1, False, 1)], "a", "ab")
        self.judged(False, [(0, 1, 0, True)], "a", "ab")
        self.judged(True, [(0, 1, 0, 1)], "a", "ab")

    def test_texts_of_no_words(self):
        for text, at in (("a B", 2), ("1e0", 0), ("let a = 01", 8), ("#", 0)):
            for thing in ([], None, ROWS):
                self.assertEqual(refusal(self, NoText, is_map, thing, text, OTHER).at, at)

    def test_again_and_by_name(self):
        rows = list(ROWS)
        asked_again(self, is_map, rows, TEXT, OTHER)
        self.assertIs(is_map(other=OTHER, text=TEXT, thing=ROWS), True)


class Lead(unittest.TestCase):

    def test_places_of_words(self):
        for begin, end, first, last in ROWS:
            for at in range(begin, end):
                self.assertEqual(lead(ROWS, at), (first, last))
        self.assertEqual(lead([(2, 3, 7, 7)], 2), (7, 7))

    def test_places_in_no_word(self):
        for at in (3, 5, 7, 11, 19, 20, -1, -4, -19, 10 ** 29, -10 ** 29):
            refusal(self, NoMap, lead, ROWS, at)
        for at in (0, 1, -1):
            refusal(self, NoMap, lead, [], at)

    def test_again_and_by_name(self):
        rows = list(ROWS)
        self.assertEqual(lead(at=9, entries=rows), (11, 13))
        self.assertEqual(lead(rows, 9), (11, 13))
        self.assertEqual(rows, ROWS)


class After(unittest.TestCase):

    def test_the_least_stretch_of_all_words_met(self):
        second = [(0, 3, 10, 20), (4, 5, 14, 15), (6, 9, 2, 4), (9, 10, 30, 31)]

        def told(first, last):
            return after([(0, 1, first, last)], second)

        self.assertEqual(told(0, 3), [(0, 1, 10, 20)])
        self.assertEqual(told(0, 1), [(0, 1, 10, 20)])
        self.assertEqual(told(2, 3), [(0, 1, 10, 20)])
        self.assertEqual(told(2, 5), [(0, 1, 10, 20)])
        self.assertEqual(told(3, 5), [(0, 1, 14, 15)])
        self.assertEqual(told(4, 7), [(0, 1, 2, 15)])
        self.assertEqual(told(5, 9), [(0, 1, 2, 4)])
        self.assertEqual(told(5, 10), [(0, 1, 2, 31)])
        self.assertEqual(told(8, 10), [(0, 1, 2, 31)])
        self.assertEqual(told(0, 10), [(0, 1, 2, 31)])
        self.assertEqual(told(9, 99), [(0, 1, 30, 31)])

    def test_words_that_are_not_met(self):
        second = [(0, 3, 10, 20), (4, 5, 14, 15), (8, 9, 2, 4)]
        for first, last in ((3, 4), (5, 8), (0, 0), (1, 1), (4, 4), (3, 3), (9, 9), (9, 12), (20, 30)):
            refusal(self, NoMap, after, [(0, 1, first, last)], second)
            refusal(self, NoMap, after, [(0, 1, 0, 9), (2, 3, first, last)], second)
        refusal(self, NoMap, after, [(0, 1, 0, 1)], [])

    def test_empty_stretches_of_the_second(self):
        self.assertEqual(after([(0, 1, 0, 2)], [(0, 1, 7, 7), (1, 2, 3, 3)]), [(0, 1, 3, 7)])
        self.assertEqual(after([(0, 1, 0, 1)], [(0, 1, 7, 7), (1, 2, 3, 3)]), [(0, 1, 7, 7)])

    def test_maps_of_many_words(self):
        same = [(at, at + len(word), at, at + len(word)) for _, word, at in words(TEXT)]
        self.assertEqual(after(same, ROWS), ROWS)
        self.assertEqual(after([], ROWS), [])
        self.assertEqual(after([], []), [])
        rng = random.Random(3)
        for _ in range(200):
            second = map_at_random(rng, 5)
            first = map_at_random(rng, 9)
            met = [[row[2:] for row in second if any(row[0] <= at < row[1] for at in range(entry[2], entry[3]))] for entry in first]
            if all(met):
                told = [(*entry[:2], min(one for one, _ in rows), max(one for _, one in rows)) for entry, rows in zip(first, met)]
                self.assertEqual(after(first, second), told)
            else:
                refusal(self, NoMap, after, first, second)

    def test_what_is_handed_in_stays(self):
        first, second = list(ROWS), [(0, 27, 5, 6)]
        asked_again(self, after, first, second)
        self.assertEqual(after(other=second, entries=first), [(*row[:2], 5, 6) for row in ROWS])
        self.assertEqual((first, second), (ROWS, [(0, 27, 5, 6)]))
        told = after(first, second)
        told.append(1)
        self.assertEqual(len(first), 9)


class MapText(unittest.TestCase):

    def test_texts(self):
        self.assertEqual(map_text([]), "")
        self.assertEqual(map_text([(0, 1, 0, 0)]), "0 1 0 0")
        self.assertEqual(map_text([(0, 3, 0, 13), (4, 5, 4, 8), (6, 7, 0, 13)]), "0 3 0 d;4 2 4 -5;2 2 -4 5")
        self.assertEqual(map_text([(31, 32, 33, 1023), (1024, 1056, 0, 0)]), "v 10 11 vv;v1 100 -11 -vv")
        self.assertEqual(map_text([(0, 1, 10 ** 29, 10 ** 29 + 1), (1, 2, 0, 10 ** 29 + 1)]),
                         "0 1 " + in_32(10 ** 29) + " " + in_32(10 ** 29 + 1) + ";1 1 -" + in_32(10 ** 29) + " 0")

    def test_there_and_back(self):
        rng = random.Random(1)
        for great in (1, 3, 40, 2000, 10 ** 20, 10 ** 29):
            for _ in range(60):
                rows = map_at_random(rng, great)
                self.assertEqual(map_text(rows), written(rows))
                self.assertEqual(read_map(map_text(rows)), rows)
        rows = [(at, at + 1, at % 7, at % 7 + 3) for at in range(400)]
        self.assertEqual(read_map(map_text(rows)), rows)

    def test_again_and_by_name(self):
        rows = list(ROWS)
        self.assertEqual(map_text(entries=rows), written(ROWS))
        self.assertEqual(rows, ROWS)
        asked_again(self, read_map, written(ROWS))
        self.assertEqual(read_map(text=written(ROWS)), ROWS)


class ReadMap(unittest.TestCase):

    def refused(self, *things):
        for thing in things:
            self.assertEqual(refusal(self, NoText, read_map, thing).at, 0, thing)

    def test_maps(self):
        self.assertEqual(read_map(""), [])
        self.assertEqual(read_map("0 1 0 0"), [(0, 1, 0, 0)])
        self.assertEqual(read_map("v 10 5 5"), [(31, 32, 5, 5)])
        self.assertEqual(read_map("0 1 9 9;1 1 -9 -5;1 1 2 0"), [(0, 1, 9, 9), (1, 2, 0, 4), (2, 3, 2, 4)])

    def test_other_signs(self):
        self.refused("0 1 0 w", "0 1 0 A", "0 1 0 +1", "0 1 0 1.0", "0 1 0 _1", "0 1 0 1_0", "0 1 0 \t1", "0\n1 0 0", "0 1 0 0\n", "a", "?", "0,1,0,0", "0 1 0 \u0661",
                     "0 1 0 1z", "x")

    def test_needless_noughts_and_minus(self):
        self.refused("00 1 0 0", "0 01 0 0", "0 1 00 0", "0 1 0 -0", "-0 1 0 0", "0 1 0 000", "0 1 0 -", "- 1 0 0", "0 1 0 --1", "0 1 5 5;1 1 -05 0", "0 1 5 5;1 1 -0 0")

    def test_blanks_and_semicolons(self):
        self.refused(" ", " 0 1 0 0", "0 1 0 0 ", "0  1 0 0", ";", "0 1 0 0;", ";0 1 0 0", "0 1 0 0;;1 1 0 0", "0 1 0 0; 1 1 0 0", "0 1 0 0 ;1 1 0 0", "0;1 0 0", "0 1 0 0 1 1 0 0",
                     "0 1 0 0\n1 1 0 0")

    def test_other_counts_of_numbers(self):
        self.refused("0", "0 1", "0 1 0", "0 1 0 0 0", "0 1 0 0;1 1 0", "0 1 0 0;1 1 0 0 0", "0 1 0 0;1")

    def test_more_than_thirty_figures(self):
        top = "v" * 30
        self.assertEqual(read_map("0 1 0 " + top), [(0, 1, 0, 32 ** 30 - 1)])
        self.assertEqual(read_map("0 1 " + top + " " + top + ";1 1 -" + top + " 0"), [(0, 1, 32 ** 30 - 1, 32 ** 30 - 1), (1, 2, 0, 32 ** 30 - 1)])
        self.refused("0 1 0 1" + "0" * 30, "0 1" + "0" * 30 + " 0 0", "0 1 " + top + " " + top + ";1 1 -1" + "0" * 30 + " 0", "0 1 0 " + "v" * 1500)

    def test_numbers_below_0_or_in_another_order(self):
        self.refused("-1 1 0 0", "-1 -1 0 0", "0 1 -1 0", "0 1 0 -1", "0 1 -1 -1", "0 1 5 5;1 1 -6 0", "0 1 5 5;1 1 -6 -6")
        self.refused("0 0 0 0", "1 0 0 0", "5 5 0 0", "5 4 0 0", "0 1 0 0;1 0 0 0", "0 1 0 0;3 2 0 0")
        self.refused("0 1 1 0", "0 1 5 4", "0 1 0 5;1 1 6 0", "0 1 5 5;1 1 0 -1")
        self.refused("0 2 0 0;1 1 0 0", "0 5 0 0;4 1 0 0", "3 5 0 0;-1 1 0 0", "3 5 0 0;0 1 0 0", "3 5 0 0;1 1 0 0", "3 5 0 0;-3 -4 0 0")
        self.assertEqual(read_map("3 5 0 0;2 1 0 0"), [(3, 5, 0, 0), (5, 6, 0, 0)])

    def test_other_kinds(self):
        self.refused(None, True, 0, 1, [], (), {}, ["0 1 0 0"], ("0 1 0 0",), [(0, 1, 0, 0)])


if __name__ == "__main__":
    unittest.main()
