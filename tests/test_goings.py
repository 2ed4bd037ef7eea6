"""[25]: what can go, trees without it, and bare ones."""

import unittest

import other_turnings as by_words
from helper import asked_again, do, live_trees, num, refusal, trees_at_random
from leanscript.errors import NoTree, NoTurning
from leanscript.goings import bare, gone, without
from leanscript.reach import unreached
from leanscript.reading import read
from leanscript.rooms import bindings
from leanscript.still import is_still
from leanscript.teller import run
from leanscript.trees import is_tree, must_tree, parts
from leanscript.writing import tight
from programs import INS, PROGRAMS
from turnable import turnable_trees

TREES = [read(text) for text in PROGRAMS] + live_trees(20) + [tree for tree in trees_at_random(60) if is_tree(tree)] + turnable_trees(300)
NO_PATHS = (None, True, 0, "", "ab", [], [0], [0, 1], {}, (True,), (0, True), (False,), (-1,), (None,), ("0",), ((0,),), ([],),
            (10 ** 20,), (0, 10 ** 20))


def goings_by_words(tree):
    """For each (path, why) the outcome, but for those with a longer text."""
    rows = by_words.gone_by_words(by_words.marked(tight(tree)), bindings(tree), lambda path: is_still(tree, path))
    told = {step: by_words.plain(outcome) for step, outcome in rows.items()}
    return {step: told[step] for step in told if len(tight(told[step])) <= len(tight(tree))}


def without_pairs(tree, pairs):
    """The tree without some pairs at once, by the document's words."""
    now = by_words.marked(tight(tree))
    for pair in sorted(pairs, reverse=True):
        now = by_words.exchanged(now, [by_words.gone_pair(now, pair)])
    return by_words.plain(now)


def bare_by_words(tree):
    while True:
        pairs = unreached(tree)
        rows = goings_by_words(tree)
        if pairs:
            tree = without_pairs(tree, pairs)
        elif rows:
            tree = rows[min(rows)]
        else:
            return tree


class Gone(unittest.TestCase):

    def tells(self, text, *rows):
        """That just these can go: each row a path, why, and the text without it."""
        tree = read(text)
        self.assertEqual(gone(tree), [(path, why) for path, why, _ in rows], text)
        for path, _, outcome in rows:
            self.assertEqual(without(tree, path), read(outcome), text)
            self.assertEqual(tight(without(tree, path)), tight(read(outcome)))

    def test_statements_behind_one_that_ends(self):
        self.tells("fail 1; out 2", ((1,), "behind", "fail 1"))
        self.tells("fn () { return 1; out 2 }()", ((0, 1, 1, 2, 1), "behind", "fn () { return 1 }()"))
        self.tells("out 1; fail 2; out 3; out 4", ((2,), "behind", "out 1; fail 2; out 4"), ((3,), "behind", "out 1; fail 2; out 3"))
        self.tells("{ fail 2; out 3 } out 4", ((0, 1, 1), "behind", "{ fail 2 } out 4"), ((1,), "behind", "{ fail 2; out 3 }"))
        self.tells("try { fail 2; out 3 } catch (x) { fail 4; out 5 }", ((0, 1, 1), "behind", "try { fail 2 } catch (x) { fail 4; out 5 }"),
                   ((0, 3, 1), "behind", "try { fail 2; out 3 } catch (x) { fail 4 }"))

    def test_what_ends_a_list(self):
        for text in ("fail 1;", "{ fail 1 }", "{ out 1; { fail 2 } out 3 }", "if (k) fail 1; else fail 2;", "if (k) { fail 1 } else { { fail 2 } }",
                     "try { fail 1 } catch (x) { fail 2 }", "if (k) try { fail 1 } catch (x) { fail 2 } else fail 3;",
                     "if (k) if (l) fail 1; else fail 2; else fail 3;"):
            self.assertIn(((1,), "behind"), gone(read(text + " out k")), text)
        for text in ("out 1;", "1;", "let x = k;", "while (k) fail 1;", "if (k) fail 1;", "if (k) fail 1; else out 2;", "if (k) out 1; else fail 2;",
                     "{ out 1 }", "{ if (k) fail 1 }", "try { fail 1 } catch (x) { out 2 }", "try { out 1 } catch (x) { fail 2 }",
                     "try {} catch (x) { fail 2 }", "k(fn () { fail 1 });", "let x = fn () { return 1 };", "while (1) { fail 1 }"):
            self.assertNotIn(((1,), "behind"), gone(read(text + " out k")), text)
        self.tells("k(fn () { if (k) return 1; else { fail 2 } out 3 })",
                   ((0, 1, 2, 0, 2, 1), "behind", "k(fn () { if (k) return 1; else { fail 2 } })"))
        self.tells("k(fn () { try { return 1 } catch (x) { return 2 } return 3 })",
                   ((0, 1, 2, 0, 2, 1), "behind", "k(fn () { try { return 1 } catch (x) { return 2 } })"))

    def test_lets_behind_that_are_used_without_themselves_stay(self):
        self.tells("let f = fn () x; out f(); fail 1; let x = k()")
        self.tells("fail 1; let x = k(); out x", ((2,), "behind", "fail 1; let x = k()"))
        self.tells("fail 1; let x = k(), y = x; out k", ((1,), "behind", "fail 1; out k"), ((1, 1, 1), "unreached", "fail 1; let x = k(); out k"),
                   ((2,), "behind", "fail 1; let x = k(), y = x"))
        self.tells("fail 1; let x = k(fn () x)", ((1,), "behind", "fail 1"))
        self.tells("x = 2; fail 1; let x = k()")
        self.tells("let x = 2; out x; { out x; fail 1; let x = k() }")
        self.tells("fail 1; { let x = k(); out x }", ((1,), "behind", "fail 1"))
        self.tells("fail 1; if (k) let x = k()", ((1,), "behind", "fail 1"))
        self.tells("fail 1; let y = k(), x = k(); out y", ((2,), "behind", "fail 1; let y = k(), x = k()"))

    def test_dos_of_still_ones(self):
        self.tells("1", ((0,), "still", ""))
        self.tells("k")
        self.tells("out k; fn () k(); k()", ((1,), "still", "out k; k()"))
        self.tells("let x = k(); x; [a: x, b: !1]", ((1,), "still", "let x = k(); [a: x, b: !1]"), ((2,), "still", "let x = k(); x"))
        self.tells("x; let x = k()")
        self.tells("1 + 1; -1; k.a; k(); [a: k]")
        self.tells("while (k) 1 == 2", ((0, 2), "still", "while (k) {}"))

    def test_outcomes_with_longer_texts_are_not_told(self):
        self.tells("while (k) 1")
        self.tells("while (k) 1; out k", ((0, 2), "still", "while (k) {} out k"))
        self.tells("if (k) 1; else out 2", ((0, 2), "still", "if (k) {} else out 2"))
        self.tells("if (k) out 2; else 1", ((0, 3), "still", "if (k) out 2; else {}"))
        self.tells("if (k) out 2; else 1; out 3", ((0, 3), "still", "if (k) out 2; else {} out 3"))
        self.tells("while (k) 10", ((0, 2), "still", "while (k) {}"))
        self.tells("fn () { while (k) 1 }()")
        self.tells("{ if (k) 0 }")
        for text, path in (("while (k) 1", (0, 2)), ("{ if (k) 0 }", (0, 1, 0, 2))):
            refusal(self, NoTurning, without, read(text), path)

    def test_pairs_that_are_not_reached(self):
        self.tells("let x = 1", ((0, 1, 0), "unreached", ""))
        self.tells("let x = 1, y = k()", ((0, 1, 0), "unreached", "let y = k()"))
        self.tells("let y = k(), x = fn () x(x)", ((0, 1, 1), "unreached", "let y = k()"))
        self.tells("let f = fn () { f = 1 }", ((0, 1, 0), "unreached", ""))
        self.tells("if (k) let x = 1; else let y = 2", ((0, 2, 1, 0), "unreached", "if (k) {} else let y = 2"),
                   ((0, 3, 1, 0), "unreached", "if (k) let x = 1; else {}"))
        self.tells("while (k) let x = 1, y = 2", ((0, 2, 1, 0), "unreached", "while (k) let y = 2"), ((0, 2, 1, 1), "unreached", "while (k) let x = 1"))
        self.tells("let x = 1; out x; let y = -1, z = k")

    def test_fewer_than_unreached_tells(self):
        text = "let f = fn () g(), g = fn () f()"
        self.tells(text)
        self.assertEqual(unreached(read(text)), [(0, 1, 0), (0, 1, 1)])
        self.tells("let x = 1, y = fn () x", ((0, 1, 1), "unreached", "let x = 1"))
        self.assertEqual(unreached(read("let x = 1, y = fn () x")), [(0, 1, 0), (0, 1, 1)])
        self.tells("let f = fn () { let x = 1; return x }, g = f", ((0, 1, 1), "unreached", "let f = fn () { let x = 1; return x }"))

    def test_empty_blocks(self):
        self.tells("{}", ((0,), "empty", ""))
        self.tells("out 1; {} out 2", ((1,), "empty", "out 1; out 2"))
        self.tells("{ {} }", ((0, 1, 0), "empty", "{}"))
        self.tells("if (k) {} else {} while (k) {}")
        self.tells("try { {} } catch (x) { {} } k(fn () { {} })", ((0, 1, 0), "empty", "try {} catch (x) { {} } k(fn () { {} })"),
                   ((0, 3, 0), "empty", "try { {} } catch (x) {} k(fn () { {} })"), ((1, 1, 2, 0, 2, 0), "empty", "try { {} } catch (x) { {} } k(fn () {})"))

    def test_whiles_of_0(self):
        self.tells("while (0) out 1", ((0,), "never", ""))
        self.tells("while (1) out 1; while (-0) out 1; while (!1) out 1")
        self.tells("if (k) while (0) out 1", ((0, 2), "never", "if (k) {}"))
        self.tells("while (k) while (0) out 1; out 2", ((0, 2), "never", "while (k) {} out 2"))
        self.tells("if (k) out 1; else while (0) {}", ((0, 3), "never", "if (k) out 1; else {}"))

    def test_several_whys(self):
        self.tells("fail 1; while (0) out 1; {} 1; let x = 1", ((1,), "behind", "fail 1; {} 1; let x = 1"), ((1,), "never", "fail 1; {} 1; let x = 1"),
                   ((2,), "behind", "fail 1; while (0) out 1; 1; let x = 1"), ((2,), "empty", "fail 1; while (0) out 1; 1; let x = 1"),
                   ((3,), "behind", "fail 1; while (0) out 1; {} let x = 1"), ((3,), "still", "fail 1; while (0) out 1; {} let x = 1"),
                   ((4,), "behind", "fail 1; while (0) out 1; {} 1"), ((4, 1, 0), "unreached", "fail 1; while (0) out 1; {} 1"))

    def test_by_the_words(self):
        found = {}
        for tree in TREES:
            rows = goings_by_words(tree)
            self.assertEqual(gone(tree), sorted(rows), tight(tree))
            for (path, why), outcome in rows.items():
                self.assertEqual(without(tree, path), outcome)
                must_tree(without(tree, path))
                found[why] = found.get(why, 0) + 1
        self.assertEqual(sorted(found), ["behind", "empty", "never", "still", "unreached"])
        self.assertGreater(min(found.values()), 5)

    def test_without_anything_else(self):
        tree = read("1; while (k) 1; let x = 1, y = fn () x; if (k) {} fail 1; let z = k; out z")
        paths = [path for path, _ in gone(tree)]
        self.assertEqual(paths, [(0,), (1, 2), (2, 1, 1), (6,)])
        for path in (*NO_PATHS, (), (0, 0), (0, 1, 1), (2, 1), (2, 1, 0, 0), (2, 1, 0), *[path for path in parts(tree) if path not in paths]):
            refusal(self, NoTurning, without, tree, path)


class Bare(unittest.TestCase):

    def becomes(self, text, outcome):
        self.assertEqual(tight(bare(read(text))), tight(read(outcome)), text)

    def test_all_unreached_pairs_at_once(self):
        self.becomes("let f = fn () g(), g = fn () f(); out 1", "out 1")
        self.becomes("let x = 1, f = fn () { let y = x; out y }, z = k(); out z", "let z = k(); out z")
        self.becomes("let f = fn () { let x = 1, g = fn () x; return 2 }; f()", "let f = fn () { return 2 }; f()")
        self.becomes("if (k) let x = 1, y = fn () x; else let z = 1", "if (k) {} else {}")

    def test_what_gone_tells(self):
        self.becomes("fail 1; let x = k(); out x; {}", "fail 1")
        self.becomes("while (0) {} {} 1; { { 1 } }", "")
        self.becomes("let f = fn () { return x; let y = x }, x = 1; out f()", "let f = fn () { return x }, x = 1; out f()")
        self.becomes("while (k) 1; out 2", "while (k) {} out 2")
        self.becomes("while (k) 1", "while (k) 1")
        self.becomes("while (k) 1; let x = 1", "while (k) 1")
        self.becomes("{ let x = 1; 2 } if (k) { 1 }", "if (k) {}")
        self.becomes("", "")
        # The 1 goes while something stands behind it, as this makes the text no longer.
        self.becomes("while (k) 1; 2", "while (k) {}")

    def test_by_the_words(self):
        shorter = 0
        for tree in TREES:
            told = bare(tree)
            self.assertEqual(told, bare_by_words(tree), tight(tree))
            self.assertEqual((gone(told), unreached(told)), ([], []))
            shorter += told != tree
        self.assertGreater(shorter, 100)

    def test_it_runs_alike(self):
        tried = 0
        for tree in TREES + turnable_trees(300, first=5000):
            told = bare(tree)
            for ins in (INS, {}, {"a": 1, "b": 0, "c": {"a": 2}}):
                end, number, outs, steps = run(tree, ins, most=100)
                if end != "long":
                    other = run(told, ins, most=100)
                    self.assertEqual(other[:3], (end, number, outs))
                    self.assertLessEqual(other[3], steps)
                    tried += told != tree
        self.assertGreater(tried, 300)


class Handling(unittest.TestCase):

    def test_no_trees_go_ahead(self):
        for thing, path, why in ((None, (), "kind"), ([], (), "kind"), ((do(num(-1)),), (0, 1, 1), "number"), ((do(num(1)),) * 151, (), "great")):
            for call, more in ((gone, ()), (bare, ()), (without, (None,)), (without, ((0,),))):
                error = refusal(self, NoTree, call, thing, *more)
                self.assertEqual((error.path, error.why), (path, why))

    def test_again_and_by_name(self):
        tree = read("let x = 1; 2; {}")
        kept = repr(tree)
        asked_again(self, gone, tree)
        asked_again(self, without, tree, (1,))
        asked_again(self, bare, tree)
        self.assertEqual(gone(tree=tree), [((0, 1, 0), "unreached"), ((1,), "still"), ((2,), "empty")])
        self.assertEqual(without(path=(2,), tree=tree), read("let x = 1; 2"))
        self.assertEqual(bare(tree=tree), ())
        self.assertEqual(repr(tree), kept)

    def test_great_trees(self):
        self.assertEqual(len(gone(read("1;" * 150))), 150)
        self.assertEqual(bare(read("1;" * 150)), ())


if __name__ == "__main__":
    unittest.main()
