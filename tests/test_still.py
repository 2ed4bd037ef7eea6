"""[23]: sure uses, and still expressions."""

import unittest

from helper import asked_again, do, live_trees, name, num, refusal, thing_at, trees_at_random
from leanscript.errors import NoPath, NoTree
from leanscript.reading import read
from leanscript.rooms import bindings, outers
from leanscript.still import is_still, is_sure
from leanscript.teller import run
from leanscript.trees import parts
from programs import INS, PROGRAMS

TREES = [read(text) for text in PROGRAMS] + live_trees(40) + trees_at_random(100)
EXPRESSIONS = ("num", "name", "get", "call", "rec", "fn", "neg", "not", "two", "and", "or", "pick")
NO_PATHS = (None, True, 0, "", "ab", [], [0], [0, 1], {}, (True,), (0, True), (False,), (-1,), (0, -1), (None,), ("0",), ((0,),), (0, (1,)),
            ([],), (10 ** 20,), (0, 10 ** 20), (0, 0), (0, 0, 0), (0, 1, 1, 0, 0))


def uses_by_words(tree):
    """Tuples (use, whether it is sure), by the document's words."""
    told = []
    known = parts(tree)
    for _, place, uses in bindings(tree):
        let = place[:-3]
        is_let = let in known and thing_at(tree, let)[0] == "let" and place[len(let)] == 1
        for use in uses:
            if not is_let:
                told.append((use, True))
            elif use[:len(let)] == let:
                told.append((use, use[len(let)] == 1 and use[len(let) + 1] > place[len(let) + 1]))
            else:
                # The last step of a let's path in a list is its place there.
                told.append((use, use[:len(let) - 1] == let[:-1] and use[len(let) - 1] > let[-1]))
    return told


def still_by_words(part, path, sure):
    word = part[0]
    if word == "name":
        return sure.get(path, False)
    if word == "rec":
        return all(still_by_words(e, (*path, 1, at, 1), sure) for at, (_, e) in enumerate(part[1]))
    if word in ("not", "and", "or", "pick") or word == "two" and part[1] in ("==", "!="):
        return all(still_by_words(e, (*path, at), sure) for at, e in enumerate(part) if isinstance(e, tuple))
    return word in ("num", "fn")


class Sure(unittest.TestCase):

    def tells(self, text, *rows):
        """That just these uses of bindings are told, each sure or not."""
        tree = read(text)
        told = [(use, is_sure(tree, use)) for _, _, uses in bindings(tree) for use in uses]
        self.assertEqual(sorted(told), sorted(rows), text)
        self.assertTrue(all(type(sure) is bool for _, sure in told))

    def test_xs(self):
        self.tells("fn (x) x", ((0, 1, 2, 1), True))
        self.tells("fn (x) { x = x; fn () x }", ((0, 1, 2, 0, 1), True), ((0, 1, 2, 0, 2), True), ((0, 1, 2, 1, 1, 2, 1), True))
        self.tells("try { fail 1 } catch (x) { out x; { x = 2 } }", ((0, 3, 0, 1), True), ((0, 3, 1, 1, 0, 1), True))

    def test_statements_behind_the_let(self):
        self.tells("x; let x = 1; x", ((0, 1), False), ((2, 1), True))
        self.tells("x = 1; let x = 1; x = 2", ((0, 1), False), ((2, 1), True))
        self.tells("let x = 1; { { while (x) if (x) fn () { out x } } }",
                   ((1, 1, 0, 1, 0, 1), True), ((1, 1, 0, 1, 0, 2, 1), True), ((1, 1, 0, 1, 0, 2, 2, 1, 2, 0, 1), True))
        self.tells("{ x; { x } } let x = 1", ((0, 1, 0, 1), False), ((0, 1, 1, 1, 0, 1), False))
        self.tells("fn () { x; let x = 1; return x }", ((0, 1, 2, 0, 1), False), ((0, 1, 2, 2, 1), True))
        self.tells("try { let x = 1; out x } catch (y) { out z; let z = y; try { out z } catch (x) {} }",
                   ((0, 1, 1, 1), True), ((0, 3, 0, 1), False), ((0, 3, 1, 1, 0, 1), True), ((0, 3, 2, 1, 0, 1), True))
        self.tells("let x = 1; { x; let x = 2; x }", ((1, 1, 0, 1), False), ((1, 1, 2, 1), True))

    def test_the_let_itself(self):
        self.tells("let x = x", ((0, 1, 0, 1), False))
        self.tells("let f = fn (n) f(n)", ((0, 1, 0, 1, 2, 1, 1), False), ((0, 1, 0, 1, 2, 1, 2, 0), True))
        self.tells("let x = y, y = x", ((0, 1, 0, 1), False), ((0, 1, 1, 1), True))
        self.tells("let x = z, y = fn () z, z = x + y, w = fn () z", ((0, 1, 0, 1), False), ((0, 1, 1, 1, 2, 1), False),
                   ((0, 1, 2, 1, 2), True), ((0, 1, 2, 1, 3), True), ((0, 1, 3, 1, 2, 1), True))

    def test_functions_ahead_of_the_let(self):
        self.tells("let f = fn () x; let x = 1; f()", ((0, 1, 0, 1, 2, 1), False), ((2, 1, 1), True))
        self.tells("let f = fn () { x = 1 }, g = f; let x = g()", ((0, 1, 0, 1, 2, 0, 1), False), ((0, 1, 1, 1), True), ((1, 1, 0, 1, 1), True))

    def test_lets_that_stand_alone(self):
        self.tells("if (k) let x = x, y = x; else let y = z, z = y",
                   ((0, 2, 1, 0, 1), False), ((0, 2, 1, 1, 1), True), ((0, 3, 1, 0, 1), False), ((0, 3, 1, 1, 1), True))
        self.tells("while (k) let x = 1, y = fn () { x = y }", ((0, 2, 1, 1, 1, 2, 0, 1), True), ((0, 2, 1, 1, 1, 2, 0, 2), False))

    def test_by_the_words(self):
        for tree in TREES:
            for use, sure in uses_by_words(tree):
                self.assertIs(is_sure(tree, use), sure)

    def test_no_paths(self):
        tree = read("let x = y; x; x = x + 1; fn (z) z; try {} catch (e) { e } z.x")
        uses = [use for _, _, uses in bindings(tree) for use in uses]
        others = [path for path in parts(tree) if path not in uses]
        for path in (*NO_PATHS, *others, (), (0, 1, 0, 0), (0, 1, 0), (2, 0), (3, 1, 1, 0), (4, 2), (5, 1, 2), (1, 1, 1), (2, 2, 2, 1)):
            refusal(self, NoPath, is_sure, tree, path)
        self.assertEqual(sorted(use for use in uses if is_sure(tree, use)), sorted(uses))
        for _, places in outers(tree):
            for path in places:
                refusal(self, NoPath, is_sure, tree, path)


class Still(unittest.TestCase):

    def tells(self, still, text, path=(0, 1), tree=None):
        told = is_still(tree or read(text), path)
        self.assertIs(told, still, text)

    def test_nums_names_and_fns(self):
        self.tells(True, "1")
        self.tells(False, "k")
        self.tells(True, "let x = 1; x", (1, 1))
        self.tells(False, "x; let x = 1")
        self.tells(False, "let x = x", (0, 1, 0, 1))
        self.tells(True, "let x = 1, y = x", (0, 1, 1, 1))
        self.tells(True, "fn (x) x", (0, 1, 2, 1))
        self.tells(True, "fn (x) k()")
        self.tells(True, "fn () { fail k }")
        self.tells(False, "fn () { fail k }", (0, 1, 2, 0, 1))

    def test_made_of_still_ones(self):
        for text in ("[]", "[a: 1, b: fn () k]", "!1", "!fn () { k }", "1 && 2", "1 || 2", "1 ? 2 : 3", "1 == 2", "[] != 2", "![a: 1 && [b: 2 == 3]]"):
            self.tells(True, text)
        for text in ("[a: k]", "[a: 1, b: k]", "[a: 1, b: -1]", "!k", "!-1", "1 && k", "k && 1", "1 || k", "k || 1", "k ? 2 : 3", "1 ? k : 3",
                     "1 ? 2 : k", "1 == k", "k == 1", "k != 1", "1 != k", "[a: [b: 1 ? [] : !k]]"):
            self.tells(False, text)

    def test_others(self):
        for sign in ("+", "-", "*", "/", "~", "<", ">", "<=", ">="):
            self.tells(False, "1" + sign + "2")
            self.tells(False, "!(1" + sign + "2)")
        for text in ("-1", "-0", "[a: 1].a", "(fn () 1)()", "1()", "k.a"):
            self.tells(False, text)

    def test_names_that_are_words(self):
        tree = read("let num = 1, name = k, rec = 2; [num: 1, name: k]; name.num")
        for path in ((0, 1, 0), (0, 1, 1), (0, 1, 2), (1, 1, 1, 0), (1, 1, 1, 1), (0, 1)):
            refusal(self, NoPath, is_still, tree, path)
        self.tells(True, "", (0, 1, 0, 1), tree)
        self.tells(False, "", (0, 1, 1, 1), tree)

    def test_by_the_words(self):
        told = set()
        for tree in TREES[::3]:
            sure = dict(uses_by_words(tree))
            for path in parts(tree):
                part = thing_at(tree, path)
                if part[0] in EXPRESSIONS:
                    told.add((part[0], still_by_words(part, path, sure)))
                    self.assertIs(is_still(tree, path), still_by_words(part, path, sure))
                else:
                    refusal(self, NoPath, is_still, tree, path)
        never = {("num", False), ("fn", False), ("get", True), ("call", True), ("neg", True)}
        self.assertEqual(told, {(word, still) for word in EXPRESSIONS for still in (True, False)} - never)

    def test_no_paths(self):
        tree = read("let x = y; x; x = x + 1; fn (z) z; fn () { z }; z.x; k([a: 1])")
        for path in (*NO_PATHS, (), (0,), (0, 1), (0, 1, 0), (0, 1, 0, 0), (2, 1), (3, 1, 1), (3, 1, 1, 0), (3, 1, 2), (4, 1, 2), (4, 1, 2, 0),
                     (5, 1, 2), (6, 1, 2), (6, 1, 2, 0, 1), (6, 1, 2, 0, 1, 0), (2, 2, 1), (1, 1, 1), (1, 1, 0), (99,)):
            refusal(self, NoPath, is_still, tree, path)

    def test_a_still_one_put_as_a_do_changes_nothing(self):
        texts = ("1", "x", "y", "z", "a", "fn () k()", "[a: x, b: 1]", "!a", "x && y", "a == x", "x != [a: b]", "y ? a : 1", "d || n", "[a: c].a", "x + 1")
        expressions = [thing_at(read(text), (0, 1)) for text in texts]
        tried = done = 0
        for tree in TREES[::2]:
            for path in lists_of(tree):
                for at in range(len(thing_at(tree, path)) + 1):
                    tried += 1
                    told = put_ahead(tree, path, at, do(expressions[tried % len(texts)]))
                    if not is_too_great(told) and is_still(told, (*path, at, 1)):
                        done += 1
                        self.assertEqual(run(told, INS, most=60), run(tree, INS, most=60))
        self.assertGreater(done, 300)


def lists_of(tree):
    """The paths of all lists of statements."""
    told = [()]
    for path in parts(tree):
        part = thing_at(tree, path)
        if part[0] == "block":
            told.append((*path, 1))
        if part[0] == "try":
            told.extend([(*path, 1), (*path, 3)])
        if part[0] == "fn" and not (len(part[2]) == 2 and part[2][0] == "give"):
            told.append((*path, 2))
    return told


def put_ahead(tree, path, at, part):
    if path == ():
        return (*tree[:at], part, *tree[at:])
    return (*tree[:path[0]], put_ahead(tree[path[0]], path[1:], at, part), *tree[path[0] + 1:])


def is_too_great(tree):
    try:
        parts(tree)
    except NoTree:
        return True
    return False


class Handling(unittest.TestCase):

    def test_no_trees_go_ahead(self):
        for call in (is_sure, is_still):
            for thing, path, why in ((None, (), "kind"), ([], (), "kind"), ((do(num(-1)),), (0, 1, 1), "number"),
                                     ((("set", "x", name("a")),), (0,), "set"), ((do(num(1)),) * 151, (), "great")):
                for place in ((0, 1), None, [], (True,)):
                    error = refusal(self, NoTree, call, thing, place)
                    self.assertEqual((error.path, error.why), (path, why))

    def test_again_and_by_name(self):
        tree = read("let x = 1; x; x = y")
        kept = repr(tree)
        asked_again(self, is_sure, tree, (1, 1))
        asked_again(self, is_still, tree, (1, 1))
        self.assertIs(is_sure(path=(1, 1), tree=tree), True)
        self.assertIs(is_still(path=(2, 2), tree=tree), False)
        self.assertEqual(repr(tree), kept)


if __name__ == "__main__":
    unittest.main()
