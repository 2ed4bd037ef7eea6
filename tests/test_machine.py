"""[17], [18]: the machine."""

import copy
import unittest

from helper import asked_again, live_trees, refusal, spoil, trees_at_random
from leanscript.code import code
from leanscript.errors import NoCount
from leanscript.machine import go
from leanscript.reading import read
from leanscript.teller import MOST, run
from programs import INS, PROGRAMS

LOOP = "let i = 0; while (i < 3) { out i; i = i + 1 }"


class Machine(unittest.TestCase):

    def runs_alike(self, tree, ins):
        lines = code(tree)
        told = run(tree, ins)
        self.assertEqual(go(lines, ins), told)
        self.assertEqual(go(lines, ins, most=2000), told)
        for most in sorted({0, 1, max(0, told[3] - 1), told[3], min(2000, told[3] + 1)}):
            self.assertEqual(go(lines, ins, most=most), run(tree, ins, most=most))
        return told

    def test_programs(self):
        for text in PROGRAMS:
            for ins in (INS, {}, {"zz": 3, "k": {"a": 1}, "nothing": 1}):
                self.runs_alike(read(text), ins)

    def test_trees_at_random(self):
        ends = set()
        for tree in live_trees(300) + trees_at_random(300):
            ends.add(self.runs_alike(tree, {"a": 2, "b": {"a": 1, "b": 5}, "longestnames": 3, "nothing": 1})[0])
        self.assertEqual(ends, {"done", "failed", "long"})

    def test_told_by_hand(self):
        self.assertEqual(go(code(read(LOOP)), {}), ("done", 0, [0, 1, 2], 4))
        self.assertEqual(go(code(read(LOOP)), {}, most=3), ("long", 0, [0, 1, 2], 3))
        self.assertEqual(go(code(read("out k; fail -k")), {"k": 4}), ("failed", -4, [4], 0))
        self.assertEqual(go(code(()), {}), ("done", 0, [], 0))
        told = go(code(read("out 1")), {})
        self.assertEqual((type(told), type(told[2])), (tuple, list))

    def test_lines_written_by_hand(self):
        self.assertEqual(go([], {}), ("done", 0, [], 0))
        self.assertEqual(go([("end",), ("num", 1), ("out",)], {}), ("done", 0, [], 0))
        self.assertEqual(go([("num", 2), ("num", 3), ("two", "-"), ("out",)], {}), ("done", 0, [-1], 0))
        self.assertEqual(go([("open", 1), ("open", 0), ("take", 1, 0)], {}), ("failed", -1, [], 0))
        self.assertEqual(go([("open", 1), ("num", 5), ("give", 0, 0)], {}), ("failed", -1, [], 0))
        self.assertEqual(go([("open", 1), ("num", 5), ("first", 0), ("open", 2), ("num", 6), ("give", 1, 0), ("shut",),
                             ("take", 0, 0), ("out",)], {}), ("done", 0, [6], 0))
        self.assertEqual(go([("num", 8), ("try", 4), ("num", 1), ("fail",), ("two", "-"), ("out",)], {}), ("done", 0, [7], 0))
        self.assertEqual(go([("num", 8), ("try", 5), ("num", 1), ("num", 2), ("fail",), ("two", "-"), ("out",)], {}),
                         ("done", 0, [6], 0))
        self.assertEqual(go([("num", 9), ("fn", 6, 0, 0), ("call", 0), ("two", "-"), ("out",), ("end",), ("num", 1), ("num", 2),
                             ("return",)], {}), ("done", 0, [7], 1))
        self.assertEqual(go([("try", 3), ("tried",), ("ins", "x"), ("out",)], {}), ("failed", -1, [], 0))
        self.assertEqual(go([("fn", 4, 1, 2), ("num", 7), ("call", 1), ("jump", 9), ("take", 0, 0), ("first", 1), ("take", 0, 1),
                             ("out",), ("take", 0, 1)], {}), ("done", 0, [7], 1))
        self.assertEqual(go([("num", 1), ("num", 2), ("rec", ["b", "a"]), ("get", "a"), ("out",)], {}), ("done", 0, [2], 0))

    def test_most(self):
        lines = code(read("let i = 0; while (i < 1999) i = i + 1"))
        self.assertEqual(MOST, 2000)
        self.assertEqual(go(lines, {}), ("done", 0, [], 2000))
        self.assertEqual(go(lines, {}, most=1999), ("long", 0, [], 1999))

    def test_no_counts(self):
        lines = code(read(LOOP))
        for most in (-1, 2001, 10 ** 29, True, False, None, "1", "", [], [1], (), (1,)):
            refusal(self, NoCount, go, lines, {}, most=most)
            self.assertEqual(go(lines, {}, most=4), ("done", 0, [0, 1, 2], 4))

    def test_by_names_alone(self):
        lines = code(read(LOOP))
        self.assertEqual(go(ins={}, lines=lines, most=4), ("done", 0, [0, 1, 2], 4))
        with self.assertRaises(TypeError):
            go(lines, {}, 5)

    def test_nothing_is_changed(self):
        for text in PROGRAMS:
            lines, ins = code(read(text)), copy.deepcopy(INS)
            kept = repr(lines)
            asked_again(self, go, lines, ins)
            self.assertEqual(repr(lines), kept)
            self.assertEqual(ins, INS)
        ins = {"r": {"a": 1}}
        lines = code(read("out r.a; r.a = 2; r.b = r; out r.b.a"))
        self.assertEqual(go(lines, ins), ("done", 0, [1, 2], 0))
        self.assertEqual(go(lines, ins), ("done", 0, [1, 2], 0))
        self.assertEqual(ins, {"r": {"a": 1}})

    def test_records_handed_in_are_new_for_each_name(self):
        one = {"a": 1}
        lines = code(read("out r == s; r.a = 2; out s.a"))
        self.assertEqual(go(lines, {"r": one, "s": one}), ("done", 0, [0, 1], 0))

    def test_lines_that_were_changed_change_no_later_ones(self):
        tree = read(LOOP)
        spoil(code(tree))
        self.assertEqual(go(code(tree), {}), ("done", 0, [0, 1, 2], 4))


if __name__ == "__main__":
    unittest.main()
