"""[14]: how runs end, their steps, and what is handed in."""

import copy
import unittest

from helper import asked_again, do, name, num, refusal, trees_at_random
from leanscript.errors import NoCount, NoTree
from leanscript.reading import read
from leanscript.teller import MOST, run

LOOP = "let i = 0; while (i < 3) { out i; i = i + 1 }"
CALLS = "let f = fn (n) { out n; return n < 1 ? 0 : f(n - 1) }; out f(3)"


class Runs(unittest.TestCase):

    def tells(self, text, told, ins=None, **named):
        self.assertEqual(run(read(text), {} if ins is None else ins, **named), told, text)


class Ends(Runs):

    def test_done(self):
        self.assertEqual(run((), {}), ("done", 0, [], 0))
        self.tells("out 1; out 2;", ("done", 0, [1, 2], 0))
        told = run(read("out 1"), {})
        self.assertIsInstance(told, tuple)
        self.assertIsInstance(told[2], list)

    def test_failed(self):
        self.tells("out 1; fail 7; out 2", ("failed", 7, [1], 0))
        self.tells("fail 0", ("failed", 0, [], 0))
        self.tells("fail -1", ("failed", -1, [], 0))
        self.tells("fail 1e15 * 1e15", ("failed", 10 ** 30, [], 0))
        self.tells("fn () 1; x", ("failed", -1, [], 0))
        self.tells("let f = fn () { out 1; fail 5 }; f(); out 2", ("failed", 5, [1], 1))

    def test_long(self):
        self.tells("while (1) out 1", ("long", 0, [1] * 2000, 2000))
        self.tells("out 7; while (1) {}", ("long", 0, [7], 2000))
        self.tells("let f = fn () 0; while (1) f()", ("long", 0, [], 2000))
        self.tells("try { while (1) {} } catch (x) { out x }", ("long", 0, [], 2000))


class Steps(Runs):

    def test_a_while_makes_one_whenever_its_test_is_come_to(self):
        self.tells(LOOP, ("done", 0, [0, 1, 2], 4))
        self.tells("while (0) {}", ("done", 0, [], 1))
        self.tells("let i = 0; while (i < 2) { i = i + 1; let j = 0; while (j < 2) j = j + 1 }", ("done", 0, [], 9))
        self.tells("while (x) {}", ("failed", -1, [], 1))

    def test_a_call_makes_one(self):
        self.tells("let f = fn () 1; out f() + f()", ("done", 0, [2], 2))
        self.tells("let f = fn () {}; f(f)", ("failed", -4, [], 0))
        self.tells("let f = fn (x) {}; f(y)", ("failed", -1, [], 0))
        self.tells("1(2)", ("failed", -2, [], 0))
        self.tells("let f = fn () { fail 3 }; f()", ("failed", 3, [], 1))
        self.tells(CALLS, ("done", 0, [3, 2, 1, 0, 0], 4))

    def test_nothing_else_makes_one(self):
        self.tells("let x = [a: 1]; if (x) { x.a = 2 } try { fail 1 } catch (e) {} fn () 1; out -x.a ? !1 && 2 : 3 || 4; {}",
                   ("done", 0, [0], 0))

    def test_most(self):
        self.tells(LOOP, ("done", 0, [0, 1, 2], 4), most=4)
        self.tells(LOOP, ("long", 0, [0, 1, 2], 3), most=3)
        self.tells(LOOP, ("long", 0, [0], 1), most=1)
        self.tells(LOOP, ("long", 0, [], 0), most=0)
        self.tells(LOOP, ("done", 0, [0, 1, 2], 4), most=2000)
        self.tells(CALLS, ("done", 0, [3, 2, 1, 0, 0], 4), most=4)
        self.tells(CALLS, ("long", 0, [3, 2, 1], 3), most=3)
        self.tells("out 1", ("done", 0, [1], 0), most=0)
        self.tells("fail 1", ("failed", 1, [], 0), most=0)

    def test_most_left_out(self):
        self.assertEqual(MOST, 2000)
        self.tells("let i = 0; while (i < 1999) i = i + 1", ("done", 0, [], 2000))
        self.tells("let i = 0; while (i < 2000) i = i + 1", ("long", 0, [], 2000))

    def test_a_step_too_much_ahead_of_other_failures(self):
        self.tells("let f = fn () { fail 1 }; f()", ("long", 0, [], 0), most=0)
        self.tells("while (x) {}", ("long", 0, [], 0), most=0)
        self.tells("let f = fn () 1; f(1)", ("failed", -4, [], 0), most=0)

    def test_no_counts(self):
        tree = read("out 1")
        for most in (-1, 2001, 10 ** 29, True, False, None, "1", "", [], [1], (), (1,)):
            refusal(self, NoCount, run, tree, {}, most=most)

    def test_no_trees_go_ahead(self):
        for most in (0, -1, None):
            error = refusal(self, NoTree, run, (do(num(-1)),), {}, most=most)
            self.assertEqual((error.path, error.why), ((0, 1, 1), "number"))
        self.assertEqual(refusal(self, NoTree, run, None, {}).why, "kind")
        self.assertEqual(refusal(self, NoTree, run, (("return", num(1)),), {}).why, "return")
        self.assertEqual(refusal(self, NoTree, run, (do(name("a")),) * 151, {}, most=2001).why, "great")

    def test_most_is_handed_in_by_name_alone(self):
        with self.assertRaises(TypeError):
            run((), {}, 5)


class Ins(Runs):

    def test_numbers(self):
        self.tells("out a + b", ("done", 0, [5], 0), {"a": 7, "b": -2, "c": 1})
        self.tells("out a", ("done", 0, [10 ** 30 - 1], 0), {"a": 10 ** 30 - 1})
        self.tells("out a", ("failed", -1, [], 0), {"b": 1})
        self.tells("let a = 1; out a", ("done", 0, [1], 0), {"a": 7})
        self.tells("out a; let a = 1", ("failed", -1, [], 0), {"a": 7})
        self.tells("{ let a = 1; out a } out a", ("done", 0, [1, 7], 0), {"a": 7})

    def test_records(self):
        ins = {"a": {"k": 1, "l": 2}, "b": {}}
        self.tells("out a.k; out a.l; a.k = 5; b.m = 6; out a.k + b.m", ("done", 0, [1, 2, 11], 0), ins)
        self.assertEqual(ins, {"a": {"k": 1, "l": 2}, "b": {}})
        self.tells("out a.m", ("failed", -3, [], 0), ins)
        self.tells("out a", ("failed", -2, [], 0), ins)
        self.tells("out a == a; out a == b; a.s = a; out a.s.s.k", ("done", 0, [1, 0, 1], 0), ins)

    def test_records_are_new_for_each_name_and_in_each_run(self):
        one = {"k": 1}
        ins = {"a": one, "b": one}
        for _ in range(2):
            self.tells("out a == b; a.k = 2; out b.k; out a.k", ("done", 0, [0, 1, 2], 0), ins)
        self.assertEqual(ins, {"a": {"k": 1}, "b": {"k": 1}})

    def test_by_names_and_again(self):
        tree = read(CALLS)
        self.assertEqual(run(ins={"a": 1}, tree=tree, most=4), ("done", 0, [3, 2, 1, 0, 0], 4))
        asked_again(self, run, tree, {})
        asked_again(self, run, read("a.k = a.k + 1; out a.k"), {"a": {"k": 1}})

    def test_nothing_is_changed(self):
        for tree in trees_at_random(200):
            ins = {"a": {"b": 1}, "b": 3, "c": {"a": 2, "c": 4}}
            kept, before = repr(tree), copy.deepcopy(ins)
            run(tree, ins)
            self.assertEqual(repr(tree), kept)
            self.assertEqual(ins, before)


class AtRandom(Runs):

    def test_fewer_steps_tell_the_beginning(self):
        ends = set()
        for tree in trees_at_random(300):
            ins = {"a": 2, "b": {"a": 1, "b": 5}, "c": 0}
            end, number, outs, steps = run(tree, ins)
            ends.add(end)
            self.assertIn(end, ("done", "failed", "long"))
            self.assertTrue(end == "failed" or number == 0)
            for most in sorted({steps - 1, steps // 2, 0} - {-1}):
                told = run(tree, ins, most=most)
                if most < steps:
                    self.assertEqual((told[0], told[1], told[3]), ("long", 0, most))
                    self.assertEqual(told[2], outs[:len(told[2])])
            if end != "long":
                self.assertEqual(run(tree, ins, most=steps), (end, number, outs, steps))
        self.assertEqual(ends, {"done", "failed", "long"})


if __name__ == "__main__":
    unittest.main()
