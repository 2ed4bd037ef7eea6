"""[24]: pairs of lets that wait, and those that are reached."""

import unittest

from helper import asked_again, do, live_trees, num, refusal, thing_at, trees_at_random
from leanscript.errors import NoTree
from leanscript.reach import reach, reach_judged, unreached
from leanscript.reading import read
from leanscript.rooms import bindings
from leanscript.still import is_still
from leanscript.trees import is_tree, parts
from programs import PROGRAMS
from turnable import turnable_trees

TREES = [read(text) for text in PROGRAMS] + live_trees(20) + [tree for tree in trees_at_random(60) if is_tree(tree)] + turnable_trees(200)


def waiting_by_words(tree):
    """For each pair that waits its uses, by the document's words."""
    uses = {place: rows for _, place, rows in bindings(tree)}
    told = {}
    for path in parts(tree):
        part = thing_at(tree, path)
        if part[0] == "let":
            for at in range(len(part[1])):
                if is_still(tree, (*path, 1, at, 1)):
                    told[(*path, 1, at)] = uses[(*path, 1, at, 0)]
    return told


def holder_by_words(pairs, use):
    around = [pair for pair in pairs if use[:len(pair) + 1] == (*pair, 1)]
    return max(around, key=len) if around else None


def reached_by_words(pairs):
    """The pairs that rows of uses lead to, from one without a holder on."""
    told = [pair for pair in pairs if any(holder_by_words(pairs, use) is None for use in pairs[pair])]
    for pair in told:
        for other in pairs:
            if other not in told and any(holder_by_words(pairs, use) == pair for use in pairs[other]):
                told.append(other)
    return told


def is_reach(tree, rows):
    """Whether rows tell each reached pair once, with a use without a holder or with one told ahead."""
    pairs = waiting_by_words(tree)
    ahead = [None]
    for pair, use in rows:
        if use not in pairs[pair] or holder_by_words(pairs, use) not in ahead or pair in ahead:
            return False
        ahead.append(pair)
    return sorted(ahead[1:]) == sorted(reached_by_words(pairs))


class Reached(unittest.TestCase):

    def tells(self, text, reached, others):
        """That just these pairs are reached, and these others wait, each told by the name that it lets."""
        tree = read(text)
        names = {place[:-1]: name for name, place, _ in bindings(tree)}
        rows = reach(tree)
        self.assertEqual(" ".join(sorted(names[pair] for pair, _ in rows)), reached, text)
        self.assertEqual(" ".join(names[pair] for pair in unreached(tree)), others, text)
        self.assertEqual(unreached(tree), sorted(unreached(tree)))
        self.assertTrue(is_reach(tree, rows))
        self.assertIs(reach_judged(tree, rows), True)

    def test_pairs_that_wait(self):
        self.tells("let a = 1, b = k, c = fn () k(), d = a, e = f, f = [x: 1]", "f", "a c d")
        self.tells("let a = -1, b = 1 + 1, c = !1, d = 1 == 2, e = k.a, f = k()", "", "c d")
        self.tells("a; let a = a", "", "")
        self.tells("fn (x) x; try {} catch (x) { x } x", "", "")

    def test_uses_without_a_holder(self):
        self.tells("let a = 1; out a", "a", "")
        self.tells("let a = 1; a = 2", "a", "")
        self.tells("let a = 1; k(fn () a)", "a", "")
        self.tells("let a = 1, b = k + a", "a", "")
        self.tells("a; let a = 1", "a", "")
        self.tells("let a = 1; { let a = 2; out a }", "a", "a")
        self.assertEqual(unreached(read("let a = 1; { let a = 2; out a }")), [(0, 1, 0)])

    def test_holders_that_are_reached(self):
        self.tells("let a = 1, b = fn () a; b()", "a b", "")
        self.tells("let a = 1, b = fn () a", "", "a b")
        self.tells("let a = 1, b = fn () a, c = fn () b, d = fn () c; out d", "a b c d", "")
        self.tells("let d = fn () c, c = fn () b, b = fn () a, a = 1; out d", "a b c d", "")
        self.tells("let a = 1, b = fn () a, c = fn () b, d = fn () c; out b", "a b", "c d")
        self.tells("let a = 1; let b = a; let c = [x: b]; c.x = 2", "a b c", "")
        self.tells("let a = 1, b = fn () { a = 2 }", "", "a b")

    def test_pairs_within_pairs(self):
        self.tells("let f = fn () { let x = 1; out x }", "", "f x")
        self.tells("let f = fn () { let x = 1; out x }; f()", "f x", "")
        self.tells("let f = fn () { let x = 1, g = fn () x; return 2 }; f()", "f", "x g")
        self.tells("let f = fn () { let x = 1, g = fn () x; return g }; f()", "f g x", "")
        self.tells("let y = 1, f = fn () { let g = fn () y; return 2 }; f()", "f", "y g")
        self.tells("let y = 1, f = fn () { let g = fn () k; return y }; f()", "f y", "g")
        self.tells("fn () { let x = 1, g = fn () x; return 2 }", "", "x g")
        self.tells("let f = k(fn () { let x = 1; out x })", "x", "")

    def test_pairs_that_use_just_one_another(self):
        self.tells("let f = fn () f()", "", "f")
        self.tells("let f = fn () f(); f()", "f", "")
        self.tells("let f = fn () g(), g = fn () f()", "", "f g")
        self.tells("let f = fn () g(), g = fn () h(), h = fn () f(); out g", "f g h", "")
        self.tells("let f = fn () g(), g = fn () { f(); f = 1; return h }, h = fn () 1", "", "f g h")

    def test_lets_that_stand_alone(self):
        self.tells("if (k) let a = 1, b = a; else let c = 1, d = k + c", "c", "a b")

    def test_by_the_words(self):
        some = others = 0
        for tree in TREES:
            rows = reach(tree)
            pairs = waiting_by_words(tree)
            self.assertTrue(is_reach(tree, rows))
            self.assertIs(reach_judged(tree, rows), True)
            self.assertEqual(unreached(tree), sorted(pair for pair in pairs if pair not in reached_by_words(pairs)))
            some += len(rows)
            others += len(unreached(tree))
        self.assertGreater(some, 100)
        self.assertGreater(others, 100)


class Judged(unittest.TestCase):

    def setUp(self):
        self.tree = read("let a = 1, b = fn () a, c = fn () b; out c; c = b; let d = k; d; let e = 2")
        self.a, self.b, self.c, self.d, self.e = (0, 1, 0), (0, 1, 1), (0, 1, 2), (3, 1, 0), (5, 1, 0)
        self.in_a, self.in_b, self.out_c, self.set_c, self.set_b = (0, 1, 1, 1, 2, 1), (0, 1, 2, 1, 2, 1), (1, 1), (2, 1), (2, 2)
        self.rows = [(self.c, self.out_c), (self.b, self.in_b), (self.a, self.in_a)]

    def judged(self, so, thing):
        self.assertIs(reach_judged(self.tree, thing), so, thing)

    def test_other_lists_that_are_right(self):
        a, b, c = (self.a, self.in_a), (self.b, self.in_b), (self.c, self.out_c)
        self.judged(True, [c, b, a])
        self.judged(True, [(self.c, self.set_c), b, a])
        self.judged(True, [(self.b, self.set_b), a, c])
        self.judged(True, [(self.b, self.set_b), c, a])
        self.judged(True, [c, (self.b, self.set_b), a])
        self.assertIs(reach_judged(read("out 1"), []), True)
        self.assertIs(reach_judged((), []), True)

    def test_lists_that_are_wrong(self):
        a, b, c = self.rows[::-1]
        self.judged(False, [])
        for rows in ([c, b], [c, a], [b, a]):
            self.judged(False, rows)
        self.judged(False, [c, b, a, a])
        self.judged(False, [c, b, b])
        self.judged(False, [c, c, b])
        self.judged(False, [c, b, (self.b, self.set_b)])
        self.judged(False, [c, b, a, (self.b, self.set_b)])
        self.judged(False, [a, b, c])
        self.judged(False, [c, a, b])
        self.judged(False, [b, c, a])
        self.judged(False, [c, b, a, (self.d, (4, 1))])
        self.judged(False, [c, b, a, (self.e, (4, 1))])
        self.judged(False, [c, b, (self.a, self.out_c)])
        self.judged(False, [c, b, (self.a, self.a)])
        self.judged(False, [c, b, (self.a, (99, 1))])
        self.judged(False, [c, b, ((0, 1, 9), self.in_a)])
        self.judged(False, [c, b, ((0,), self.in_a)])
        self.judged(False, [c, b, ((0, 1, 0, 0), self.in_a)])
        self.assertIs(reach_judged(read("let a = 1"), [((0, 1, 0), (0, 1, 0, 0))]), False)
        self.assertIs(reach_judged(read("let a = fn () a"), [((0, 1, 0), (0, 1, 0, 1, 2, 1))]), False)

    def test_other_kinds(self):
        a, b, c = self.rows[::-1]
        self.judged(False, tuple(self.rows))
        for thing in (None, True, 0, "", "abc", (), ((),), [[]], [()], [None], [1], ["ab"]):
            self.judged(False, thing)
        for row in (list(a), (list(self.a), self.in_a), (self.a, list(self.in_a)), (*a, 1), (self.a,), (self.a, None), (None, None), None,
                    ((False, 1, 0), self.in_a), ((0, True, 0), self.in_a), (self.a, (0, 1, 1, True, 2, 1)), (self.a, (0, 1, 1, 1, 2, True)),
                    ((0, 1, -1), self.in_a), ((0, 1, "0"), self.in_a), (self.a, ([],)), ("ab", "cd"), "ab", 7):
            self.judged(False, [c, b, row])
        self.judged(False, [(self.c, (True, 1)), b, a])


class Handling(unittest.TestCase):

    def test_no_trees_go_ahead(self):
        for thing, path, why in ((None, (), "kind"), ([], (), "kind"), ((do(num(-1)),), (0, 1, 1), "number"),
                                 ((do(num(1)),) * 151, (), "great")):
            for call, more in ((reach, ()), (unreached, ()), (reach_judged, (None,)), (reach_judged, ([],))):
                error = refusal(self, NoTree, call, thing, *more)
                self.assertEqual((error.path, error.why), (path, why))

    def test_again_and_by_name(self):
        tree = read("let a = 1, b = fn () a, c = fn () c; b()")
        kept = repr(tree)
        asked_again(self, reach, tree)
        asked_again(self, unreached, tree)
        rows = reach(tree=tree)
        shown = repr(rows)
        self.assertIs(reach_judged(thing=rows, tree=tree), True)
        self.assertEqual(unreached(tree=tree), [(0, 1, 2)])
        self.assertEqual((repr(tree), repr(rows)), (kept, shown))


if __name__ == "__main__":
    unittest.main()
