"""[12], [13]: rooms, and what names mean."""

import unittest

from helper import asked_again, do, name, num, refusal, trees_at_random
from leanscript.errors import NoTree
from leanscript.reading import read
from leanscript.rooms import bindings, outers, rooms
from leanscript.trees import part_at, parts

A = name("a")


class Rooms(unittest.TestCase):

    def tells(self, text, its_bindings, its_outers, its_rooms):
        tree = read(text)
        self.assertEqual(bindings(tree), its_bindings, text)
        self.assertEqual(outers(tree), its_outers, text)
        self.assertEqual(rooms(tree), its_rooms, text)


class Each(Rooms):

    def test_nothing(self):
        self.tells("", [], [], [((), [])])

    def test_the_tree(self):
        self.tells("let x = 1; out x; x = x", [("x", (0, 1, 0, 0), [(1, 1), (2, 1), (2, 2)])], [], [((), [0])])

    def test_pairs(self):
        self.tells("let x = y, y = x, z = w", [("x", (0, 1, 0, 0), [(0, 1, 1, 1)]), ("y", (0, 1, 1, 0), [(0, 1, 0, 1)]),
                                               ("z", (0, 1, 2, 0), [])], [("w", [(0, 1, 2, 1)])], [((), [0, 1, 2])])

    def test_block(self):
        self.tells("{ let x = 1; x; } x; {}", [("x", (0, 1, 0, 1, 0, 0), [(0, 1, 1, 1)])], [("x", [(1, 1)])],
                   [((), []), ((0,), [0]), ((2,), [])])

    def test_try(self):
        self.tells("try { let x = y; x } catch (y) { let z = x; y; y = z } y",
                   [("x", (0, 1, 0, 1, 0, 0), [(0, 1, 1, 1)]), ("y", (0, 2), [(0, 3, 1, 1), (0, 3, 2, 1)]),
                    ("z", (0, 3, 0, 1, 0, 0), [(0, 3, 2, 2)])],
                   [("x", [(0, 3, 0, 1, 0, 1)]), ("y", [(0, 1, 0, 1, 0, 1), (1, 1)])],
                   [((), []), ((0, 1), [0]), ((0, 3), [1, 2])])
        self.tells("try {} catch (x) {}", [("x", (0, 2), [])], [], [((), []), ((0, 1), []), ((0, 3), [0])])

    def test_fn(self):
        self.tells("fn (x, y) { let z = x; return z + y + w }",
                   [("x", (0, 1, 1, 0), [(0, 1, 2, 0, 1, 0, 1)]), ("y", (0, 1, 1, 1), [(0, 1, 2, 1, 1, 2, 3)]),
                    ("z", (0, 1, 2, 0, 1, 0, 0), [(0, 1, 2, 1, 1, 2, 2)])],
                   [("w", [(0, 1, 2, 1, 1, 3)])], [((), []), ((0, 1), [0, 1, 2])])
        self.tells("fn (x) x; fn () {}; fn () x", [("x", (0, 1, 1, 0), [(0, 1, 2, 1)])], [("x", [(2, 1, 2, 1)])],
                   [((), []), ((0, 1), [0]), ((1, 1), []), ((2, 1), [])])

    def test_let_that_stands_alone(self):
        self.tells("if (x) let x = x, y = x; else let x = y; x",
                   [("x", (0, 2, 1, 0, 0), [(0, 2, 1, 0, 1), (0, 2, 1, 1, 1)]), ("y", (0, 2, 1, 1, 0), []),
                    ("x", (0, 3, 1, 0, 0), [])],
                   [("x", [(0, 1), (1, 1)]), ("y", [(0, 3, 1, 0, 1)])],
                   [((), []), ((0, 2), [0, 1]), ((0, 3), [2])])
        self.tells("while (x) let x = fn () { x = x }", [("x", (0, 2, 1, 0, 0), [(0, 2, 1, 0, 1, 2, 0, 1), (0, 2, 1, 0, 1, 2, 0, 2)])],
                   [("x", [(0, 1)])], [((), []), ((0, 2), [0]), ((0, 2, 1, 0, 1), [])])
        self.tells("if (a) if (b) let x = 1", [("x", (0, 2, 2, 1, 0, 0), [])], [("a", [(0, 1)]), ("b", [(0, 2, 1)])],
                   [((), []), ((0, 2, 2), [0])])


class Meanings(Rooms):

    def test_uses_ahead_of_their_let(self):
        self.tells("x; let f = fn () x; let x = 1; x = 2",
                   [("f", (1, 1, 0, 0), []), ("x", (2, 1, 0, 0), [(0, 1), (1, 1, 0, 1, 2, 1), (3, 1)])], [],
                   [((), [0, 1]), ((1, 1, 0, 1), [])])

    def test_let_x_of_x(self):
        self.tells("let x = x + 1", [("x", (0, 1, 0, 0), [(0, 1, 0, 1, 2)])], [], [((), [0])])
        self.tells("let x = 1; { let x = x + 1 }",
                   [("x", (0, 1, 0, 0), []), ("x", (1, 1, 0, 1, 0, 0), [(1, 1, 0, 1, 0, 1, 2)])], [], [((), [0]), ((1,), [1])])

    def test_like_names_in_rooms_within_rooms(self):
        self.tells("let x = 1; { x = 2; let x = 3; { x = 4 } fn (x) { x = 5; fn () x } } x",
                   [("x", (0, 1, 0, 0), [(2, 1)]),
                    ("x", (1, 1, 1, 1, 0, 0), [(1, 1, 0, 1), (1, 1, 2, 1, 0, 1)]),
                    ("x", (1, 1, 3, 1, 1, 0), [(1, 1, 3, 1, 2, 0, 1), (1, 1, 3, 1, 2, 1, 1, 2, 1)])], [],
                   [((), [0]), ((1,), [1]), ((1, 1, 2), []), ((1, 1, 3, 1), [2]), ((1, 1, 3, 1, 2, 1, 1), [])])

    def test_an_fn_in_a_let(self):
        self.tells("let f = fn (n) n ? f(n - 1) : 0, g = f",
                   [("f", (0, 1, 0, 0), [(0, 1, 0, 1, 2, 1, 2, 1), (0, 1, 1, 1)]),
                    ("n", (0, 1, 0, 1, 1, 0), [(0, 1, 0, 1, 2, 1, 1), (0, 1, 0, 1, 2, 1, 2, 2, 0, 2)]),
                    ("g", (0, 1, 1, 0), [])], [], [((), [0, 2]), ((0, 1, 0, 1), [1])])

    def test_properties_are_no_names(self):
        self.tells("let k = [k: 1]; k.k = k.l", [("k", (0, 1, 0, 0), [(1, 1), (1, 3, 1)])], [], [((), [0])])

    def test_outers_are_rising(self):
        self.tells("z; ab; a; z; fn (b) { b; a }",
                   [("b", (4, 1, 1, 0), [(4, 1, 2, 0, 1)])],
                   [("a", [(2, 1), (4, 1, 2, 1, 1)]), ("ab", [(1, 1)]), ("z", [(0, 1), (3, 1)])],
                   [((), []), ((4, 1), [0])])

    def test_bindings_are_rising(self):
        tree = read("try { let b = fn (a) {} } catch (a) { let b = 1 } let c = 1, d = fn (e) e, f = 1")
        self.assertEqual([(x, path) for x, path, _ in bindings(tree)], [
            ("b", (0, 1, 0, 1, 0, 0)), ("a", (0, 1, 0, 1, 0, 1, 1, 0)), ("a", (0, 2)), ("b", (0, 3, 0, 1, 0, 0)),
            ("c", (1, 1, 0, 0)), ("d", (1, 1, 1, 0)), ("e", (1, 1, 1, 1, 1, 0)), ("f", (1, 1, 2, 0))])
        self.assertEqual(rooms(tree), [((), [4, 5, 7]), ((0, 1), [0]), ((0, 1, 0, 1, 0, 1), [1]), ((0, 3), [2, 3]),
                                       ((1, 1, 1, 1), [6])])


def room_paths(tree):
    """The paths of all rooms, by the document's words."""
    told = [()]
    for path in parts(tree):
        part = part_at(tree, path)
        if part[0] in ("block", "fn"):
            told.append(path)
        if part[0] == "try":
            told.extend([(*path, 1), (*path, 3)])
        told.extend([(*path, at) for at in (2, 3) if part[0] in ("if", "while") and part[at:] and part[at] and part[at][0] == "let"])
    return sorted(told)


class AtRandom(Rooms):

    def test_each_use_once_and_in_the_innermost_room(self):
        for tree in trees_at_random(200):
            its_bindings, its_rooms = bindings(tree), rooms(tree)
            self.assertEqual([path for path, _ in its_rooms], room_paths(tree))
            self.assertEqual([path for _, path, _ in its_bindings], sorted(path for _, path, _ in its_bindings))
            self.assertEqual(sorted(number for _, numbers in its_rooms for number in numbers), list(range(len(its_bindings))))
            has = {path: {its_bindings[number][0]: number for number in numbers} for path, numbers in its_rooms}
            meant = {}
            for number, (x, path, uses) in enumerate(its_bindings):
                self.assertEqual(part_at(tree, path), x)
                self.assertEqual(uses, sorted(uses))
                meant.update({use: number for use in uses})
            for x, uses in outers(tree):
                self.assertEqual(uses, sorted(uses))
                meant.update({use: None for use in uses})
            self.assertEqual(meant, self.meant(tree, has))

    def meant(self, tree, has):
        told = {}
        for path in parts(tree):
            part = part_at(tree, path)
            if part[0] in ("name", "set"):
                around = [path[:many] for many in range(len(path), -1, -1) if path[:many] in has]
                having = [has[room][part[1]] for room in around if part[1] in has[room]]
                told[path if part[0] == "name" else (*path, 1)] = having[0] if having else None
        return told


class Handling(Rooms):

    def test_again_and_by_name(self):
        tree = read("let x = 1; x; x; y; fn (x) { x; let z = x }")
        kept = repr(tree)
        for call in (bindings, outers, rooms):
            asked_again(self, call, tree)
            self.assertEqual(call(tree=tree), call(tree))
        self.assertEqual(repr(tree), kept)

    def test_no_trees(self):
        for call in (bindings, outers, rooms):
            for thing, path, why in ((None, (), "kind"), ([], (), "kind"), ((do(num(-1)),), (0, 1, 1), "number"),
                                     ((("set", "x", A),), (0,), "set"), ((do(A),) * 151, (), "great")):
                error = refusal(self, NoTree, call, thing)
                self.assertEqual((error.path, error.why), (path, why))


if __name__ == "__main__":
    unittest.main()
