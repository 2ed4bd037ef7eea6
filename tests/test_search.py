"""[27]: leaner trees, all trees to which steps lead, and the least of these."""

import unittest

from helper import asked_again, do, num, refusal
from leanscript.errors import NoTree, TooMany
from leanscript.goings import gone, without
from leanscript.reading import read
from leanscript.search import all_turned, closed, leaner, least_turned, steps_judged
from leanscript.teller import run
from leanscript.trees import must_tree
from leanscript.turnings import turned, turnings
from leanscript.writing import tight
from programs import INS, PROGRAMS
from turnable import turnable_trees

SMALL = ("", "out 1", "out 1 + 2 + 3", "if (!!k) { out 1 + 2 } else out 4", "let x = 1; let y = x; out y", "1; {} while (0) out 2", "while (k) 1",
         "k(fn (x) { if (!x) return 1; return 0 })", "k(fn (x) { if (!x) return 1; else return 0; return 0 })", "if (k) {} else {}",
         "let x = 1000; out x + x", "if (1) let x = 2; out 0 && x", "let f = fn () { return g }, g = fn () f; out 2", "fail 1; let x = k(); out x",
         "if (!(k < 1)) l(); if (k) x = 1; else x = 2; let x = 0", "if (k) 1; else 2", "if (!k) {} else 3 - 5", "{ { {} } 1; { let x = 1 } }",
         "let x = 12345, y = x, z = x; out y + z", "while (!(k == l)) { if (k) out 1; else {} }")
TREES = [read(text) for text in SMALL]


def after_step(tree, path, word):
    return without(tree, path) if word == "gone" else turned(tree, path, word)


def steps_of(tree):
    """All steps from a tree, rising."""
    return sorted(turnings(tree) + [(path, "gone") for path in {path for path, _ in gone(tree)}])


def leaner_by_words(tree):
    while True:
        ahead = tree
        for path, word in steps_of(tree):
            if len(tight(after_step(tree, path, word))) < len(tight(tree)):
                tree = after_step(tree, path, word)
                break
        if tree == ahead:
            return tree


def reached_by_words(tree):
    """All trees to which steps lead, by how many steps they need."""
    rounds = [[tree]]
    while rounds[-1]:
        known = [one for row in rounds for one in row]
        found = []
        for one in rounds[-1]:
            for path, word in steps_of(one):
                other = after_step(one, path, word)
                if other not in known and other not in found:
                    found.append(other)
        rounds.append(found)
    return rounds[:-1]


def by_text(trees):
    return sorted(trees, key=lambda tree: (len(tight(tree)), tight(tree)))


def all_lists(tree, many, other):
    """All lists of so many steps that lead to another tree."""
    if many == 0:
        return [[]] if tree == other else []
    return [[step, *more] for step in steps_of(tree) for more in all_lists(after_step(tree, *step), many - 1, other)]


class Leaner(unittest.TestCase):

    def becomes(self, text, outcome):
        self.assertEqual(tight(leaner(read(text))), outcome, text)

    def test_turnings_and_goings(self):
        self.becomes("out 1 + 2 + 3", "out 6")
        self.becomes("let x = k; let y = x; out y", "let x=k,y=x;out y")
        self.becomes("let x = 1; let y = x; out y", "out 1")
        self.becomes("if (!!k) { out 1 + 2 } else out 4", "out k?3:4")
        self.becomes("1; {} while (0) out 2; out 3", "out 3")
        self.becomes("let f = fn (x) { if (!x) return 1; return 0 }; out f(k)", "let f=fn(x)x?0:1;out f(k)")
        self.becomes("let x = 1000000001; out x + x", "let x=1000000001;out x+x")
        self.becomes("let x = 1000; out x + x", "out 2e3")
        self.becomes("", "")
        self.becomes("let f = fn () g, g = fn () f; out 2", "let f=fn()g,g=fn()f;out 2")

    def test_the_first_by_path_then_word(self):
        # By path the let's pair goes ahead of all else; by word carry comes ahead of gone, lets behind both.
        self.becomes("let x = 1; out x", "out 1")
        self.assertEqual(steps_of(read("let x = 1; let y = 2")), [((0,), "lets"), ((0, 1, 0), "carry"), ((0, 1, 0), "gone"), ((1, 1, 0), "carry"),
                                                                       ((1, 1, 0), "gone")])
        # A going ahead of a turning by its path, and behind it by its word.
        self.assertEqual(steps_of(read("{} if (1) {}")), [((0,), "gone"), ((0,), "open"), ((1,), "choose"), ((1,), "test")])

    def test_steps_that_make_it_no_shorter_are_not_made(self):
        self.becomes("while (k) 1; out 2", "while(k)1;out 2")
        self.becomes("if (k) {} out 2", "k;out 2")
        self.becomes("out 1e15 * 99", "out 99e15")
        self.becomes("out 9e8 * 9e8", "out 81e16")
        self.becomes("out 1e9 - 1", "out 1e9-1")
        self.becomes("out 1 / 3 * 9", "out 0")

    def test_by_the_words(self):
        shorter = 0
        for tree in TREES + [read(text) for text in PROGRAMS] + turnable_trees(120):
            told = leaner(tree)
            must_tree(told)
            self.assertEqual(told, leaner_by_words(tree), tight(tree))
            shorter += told != tree
        self.assertGreater(shorter, 60)

    def test_it_runs_alike(self):
        for tree in TREES + [read(text) for text in PROGRAMS] + turnable_trees(200, first=7000):
            told = leaner(tree)
            self.assertLessEqual(len(tight(told)), len(tight(tree)))
            for ins in (INS, {}, {"a": 1, "b": 0, "c": {"a": 2}}):
                end, number, outs, steps = run(tree, ins, most=100)
                if end != "long":
                    other = run(told, ins, most=100)
                    self.assertEqual(other[:3], (end, number, outs), tight(tree))
                    self.assertLessEqual(other[3], steps)


class AllTurned(unittest.TestCase):

    def test_all_of_few(self):
        self.assertEqual(all_turned(()), [()])
        self.assertEqual([tight(tree) for tree in all_turned(read("out 1 + 2 + 3"))], ["out 6", "out 3+3", "out 1+2+3"])
        self.assertEqual([tight(tree) for tree in all_turned(read("let x = 1; out x"))], ["out 1", "let x=1;out x"])
        self.assertEqual([tight(tree) for tree in all_turned(read("if (k) {} else {}"))], ["k", "if(k){}", "if(k){}else{}"])
        self.assertEqual([tight(tree) for tree in all_turned(read("while (k) 1"))], ["while(k)1"])

    def test_like_lengths_by_their_texts(self):
        told = [tight(tree) for tree in all_turned(read("out 1 + 1; out 2 + 2"))]
        self.assertEqual(told, ["out 2;out 4", "out 1+1;out 4", "out 2;out 2+2", "out 1+1;out 2+2"])

    def test_by_the_words(self):
        for tree in TREES:
            self.assertEqual(all_turned(tree), by_text(one for row in reached_by_words(tree) for one in row), tight(tree))

    def test_200_and_no_more(self):
        chain, pair = "out 1 + 1 + 1 + 1 + 1;", "out 1 + 1;"
        self.assertEqual(len(all_turned(read(chain * 2 + pair * 3))), 200)
        self.assertEqual(tight(least_turned(read(chain * 2 + pair * 3))[0]), "out 5;out 5;out 2;out 2;out 2")
        tree = read("{}" * 199)
        self.assertEqual(len(all_turned(tree)), 200)
        self.assertEqual(least_turned(tree), ((), [((0,), "gone")] * 199))
        for tree in (read("{}" * 200), read(pair * 8), read(chain * 3 + pair)):
            refusal(self, TooMany, all_turned, tree)
            refusal(self, TooMany, least_turned, tree)


class LeastTurned(unittest.TestCase):

    def test_the_first_of_the_shortest_lists(self):
        for tree in TREES:
            other, steps = least_turned(tree)
            self.assertEqual(other, all_turned(tree)[0])
            many = [other in row for row in reached_by_words(tree)].index(True)
            self.assertEqual(steps, min(all_lists(tree, many, other)), tight(tree))
            self.assertEqual(len(steps), many)
            self.assertIs(steps_judged(tree, steps, other), True)

    def test_some(self):
        self.assertEqual(least_turned(read("out 1")), (read("out 1"), []))
        self.assertEqual(least_turned(read("out 1 + 2 + 3")), (read("out 6"), [((0, 1, 2), "reckon"), ((0, 1), "reckon")]))
        self.assertEqual(least_turned(read("1; {}")), ((), [((0,), "gone"), ((0,), "gone")]))
        self.assertEqual(least_turned(read("let x = 1; x")), ((), [((0, 1, 0), "carry"), ((0,), "gone")]))
        self.assertEqual(least_turned(read("let x = 1000000001; out x")), (read("out 1000000001"), [((0, 1, 0), "carry")]))


class Judged(unittest.TestCase):

    def judged(self, so, text, steps, outcome):
        self.assertIs(steps_judged(read(text), steps, read(outcome)), so, (text, steps, outcome))

    def test_steps_that_lead_there(self):
        self.judged(True, "out 1 + 2 + 3", [((0, 1, 2), "reckon")], "out 3 + 3")
        self.judged(True, "out 1 + 2 + 3", [((0, 1, 2), "reckon"), ((0, 1), "reckon")], "out 6")
        self.judged(True, "1; {}", [((1,), "gone"), ((0,), "gone")], "")
        self.judged(True, "1; {}", [((1,), "open"), ((0,), "gone")], "")
        self.judged(True, "let x = 1, y = x", [((0, 1, 1), "gone"), ((0, 1, 0), "gone")], "")
        self.judged(True, "let x = 1, y = x", [((0, 1, 0), "carry"), ((0, 1, 0), "gone")], "")
        self.judged(True, "out 1", [], "out 1")
        self.judged(True, "", [], "")

    def test_steps_that_do_not(self):
        self.judged(False, "out 1", [], "out 2")
        self.judged(False, "out 1 + 2 + 3", [((0, 1, 2), "reckon")], "out 6")
        self.judged(False, "out 1 + 2 + 3", [((0, 1), "reckon"), ((0, 1, 2), "reckon")], "out 6")
        self.judged(False, "out 1 + 2 + 3", [((0, 1, 2), "reckon"), ((0, 1), "reckon"), ((0, 1), "reckon")], "out 6")
        self.judged(False, "1; {}", [((0,), "open"), ((0,), "gone")], "")
        self.judged(False, "1; {}", [((0,), "still"), ((0,), "gone")], "")
        self.judged(False, "1; {}", [((0,), "gone"), ((0,), "empty")], "")
        self.judged(False, "while (k) 1", [((0, 2), "gone")], "while (k) {}")
        self.judged(False, "out 1", [((), "gone")], "")
        self.judged(False, "out 1", [((0,), "gone")], "")

    def test_other_kinds(self):
        right = ((0, 1), "reckon")
        self.judged(True, "out 1 + 2", [right], "out 3")
        for steps in (None, True, 0, "", "ab", (), (right,), {}, right, [list(right)], [([0, 1], "reckon")], [((0, True), "reckon")], [((False, 1), "reckon")],
                      [((0, 1), ["reckon"])], [((0, 1), None)], [((0, 1), "reckon", 1)], [((0, 1),)], [()], [None], ["ab"], [(None, None)],
                      [((0, -1), "reckon")], [((0, 10 ** 20), "reckon")], [((0, "1"), "reckon")], [right, None], [(True, "reckon")], [("", "")]):
            self.judged(False, "out 1 + 2", steps, "out 3")
        for steps in (None, (), "", {}, 0):
            self.judged(False, "out 1", steps, "out 1")


class Closed(unittest.TestCase):

    def test_lists_that_lead_on(self):
        for tree in TREES:
            rounds = [one for row in reached_by_words(tree) for one in row]
            self.assertIs(closed(tree, rounds), True, tight(tree))
            self.assertEqual(rounds[0], tree)
        tree = read("out 1 + 1; out 2 + 2")
        least, left, right, _ = all_turned(tree)
        for rows in ([tree, left, right, least], [tree, right, left, least], [tree, left, least, right], [tree, right, least, left]):
            self.assertIs(closed(tree, rows), True)

    def test_all_turned_with_the_tree_first(self):
        for text in ("out 1", "out 1 + 2", "let x = 1; out x", "while (k) 1", "if (k) {}"):
            tree = read(text)
            told = all_turned(tree)
            self.assertIs(closed(tree, [tree] + [one for one in told if one != tree]), True, text)

    def test_lists_that_do_not(self):
        tree = read("out 1 + 1; out 2 + 2")
        least, left, right, _ = all_turned(tree)
        for rows in ([], [tree], [tree, left, right], [tree, left, least], [tree, right, least], [left, right, least], [tree, least, left, right],
                     [left, tree, right, least], [tree, left, right, least, least], [tree, left, right, least, tree], [tree, tree, left, right, least],
                     [tree, left, right, least, ()], [tree, left, right, least, read("out 1")], [least]):
            self.assertIs(closed(tree, rows), False, rows)
        self.assertIs(closed(least, [least]), True)

    def test_other_kinds(self):
        tree = read("out 1 + 1")
        other = read("out 2")
        self.assertIs(closed(tree, [tree, other]), True)
        for thing in (None, True, 0, "", "ab", (), {}, (tree, other), [None], [tree, None], [tree, 1], [tree, "ab"], [tree, list(other)], [tree, other, None],
                      [tree, other, []], [tree, other, (("do", ("num", -1)),)], [tree, other, (do(num(1)),) * 151], [[tree, other]], [tree, [other]],
                      [tree, (("out", ("num", True)),)], tree):
            self.assertIs(closed(tree, thing), False)


class Handling(unittest.TestCase):

    def test_no_trees_go_ahead(self):
        tree = read("out 1")
        for thing, path, why in ((None, (), "kind"), ([], (), "kind"), ((do(num(-1)),), (0, 1, 1), "number"), ((do(num(1)),) * 151, (), "great")):
            for call, more in ((leaner, ()), (all_turned, ()), (least_turned, ()), (closed, (None,)), (closed, ([],)), (steps_judged, ([], tree)),
                               (steps_judged, (None, None)), (steps_judged, (None, (("do",),)))):
                error = refusal(self, NoTree, call, thing, *more)
                self.assertEqual((error.path, error.why), (path, why))
            for steps in ([], None):
                error = refusal(self, NoTree, steps_judged, tree, steps, thing)
                self.assertEqual((error.path, error.why), (path, why))

    def test_again_and_by_name(self):
        tree = read("out 1 + 2; {}")
        kept = repr(tree)
        for call in (leaner, all_turned, least_turned):
            asked_again(self, call, tree)
        self.assertEqual(leaner(tree=tree), read("out 3"))
        told = all_turned(tree=tree)
        other, steps = least_turned(tree=tree)
        shown = repr((told, steps))
        self.assertIs(steps_judged(other=other, steps=steps, tree=tree), True)
        self.assertIs(closed(thing=told[::-1], tree=tree), True)
        self.assertEqual((repr(tree), repr((told, steps))), (kept, shown))


if __name__ == "__main__":
    unittest.main()
