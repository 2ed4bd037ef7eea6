"""[6], [7]: the parts of trees, and paths."""

import unittest

from helper import asked_again, do, name, num, refusal, trees_at_random
from leanscript.errors import NoPath, NoTree
from leanscript.trees import must_tree, part_at, parts

A, B, C = name("a"), name("b"), name("c")

# For each kind of part a tree with one of it, and the paths of all its parts.
EACH = [
    ((), []),
    ((do(num(0)),), [(0,), (0, 1)]),
    ((do(A),), [(0,), (0, 1)]),
    ((do(("get", A, "k")),), [(0,), (0, 1), (0, 1, 1)]),
    ((do(("call", A, ())),), [(0,), (0, 1), (0, 1, 1)]),
    ((do(("call", A, (B, C))),), [(0,), (0, 1), (0, 1, 1), (0, 1, 2, 0), (0, 1, 2, 1)]),
    ((do(("rec", ())),), [(0,), (0, 1)]),
    ((do(("rec", (("k", A), ("l", B)))),), [(0,), (0, 1), (0, 1, 1, 0, 1), (0, 1, 1, 1, 1)]),
    ((do(("fn", (), ())),), [(0,), (0, 1)]),
    ((do(("fn", ("x", "y"), (do(A), ("return", B)))),),
     [(0,), (0, 1), (0, 1, 2, 0), (0, 1, 2, 0, 1), (0, 1, 2, 1), (0, 1, 2, 1, 1)]),
    ((do(("fn", ("x",), ("give", A))),), [(0,), (0, 1), (0, 1, 2, 1)]),
    ((do(("neg", A)),), [(0,), (0, 1), (0, 1, 1)]),
    ((do(("not", A)),), [(0,), (0, 1), (0, 1, 1)]),
    ((do(("two", "+", A, B)),), [(0,), (0, 1), (0, 1, 2), (0, 1, 3)]),
    ((do(("and", A, B)),), [(0,), (0, 1), (0, 1, 1), (0, 1, 2)]),
    ((do(("or", A, B)),), [(0,), (0, 1), (0, 1, 1), (0, 1, 2)]),
    ((do(("pick", A, B, C)),), [(0,), (0, 1), (0, 1, 1), (0, 1, 2), (0, 1, 3)]),
    ((("let", (("x", A), ("y", B))),), [(0,), (0, 1, 0, 1), (0, 1, 1, 1)]),
    ((("let", (("x", A),)), ("set", "x", B)), [(0,), (0, 1, 0, 1), (1,), (1, 2)]),
    ((("put", A, "k", B),), [(0,), (0, 1), (0, 3)]),
    ((("if", A, do(B), None),), [(0,), (0, 1), (0, 2), (0, 2, 1)]),
    ((("if", A, do(B), do(C)),), [(0,), (0, 1), (0, 2), (0, 2, 1), (0, 3), (0, 3, 1)]),
    ((("while", A, do(B)),), [(0,), (0, 1), (0, 2), (0, 2, 1)]),
    ((("fail", A),), [(0,), (0, 1)]),
    ((("out", A),), [(0,), (0, 1)]),
    ((("try", (do(A), do(B)), "x", (do(C),)),),
     [(0,), (0, 1, 0), (0, 1, 0, 1), (0, 1, 1), (0, 1, 1, 1), (0, 3, 0), (0, 3, 0, 1)]),
    ((("block", (do(A), ("block", ()))),), [(0,), (0, 1, 0), (0, 1, 0, 1), (0, 1, 1)]),
]

TREE = (
    ("let", (("x", num(1)), ("f", ("fn", ("y",), (("return", ("two", "+", A, B)),))))),
    ("if", C, ("set", "x", A), None),
    ("try", (), "e", (("put", A, "k", ("rec", (("l", B),))),)),
)


class Parts(unittest.TestCase):

    def test_each_kind_of_part(self):
        for tree, paths in EACH:
            self.assertIsNone(must_tree(tree))
            self.assertEqual(parts(tree), paths)

    def test_they_are_rising_and_all(self):
        for tree in trees_at_random(200):
            told = parts(tree)
            self.assertEqual(told, sorted(told))
            self.assertEqual(sorted(told), sorted(set(told)))
            words = [part_at(tree, path)[0] for path in told]
            self.assertTrue(all(isinstance(word, str) for word in words))

    def test_again_and_by_name(self):
        asked_again(self, parts, TREE)
        self.assertEqual(parts(tree=()), [])

    def test_the_tree_is_unchanged(self):
        kept = repr(TREE)
        parts(TREE)
        part_at(TREE, (1, 1))
        self.assertEqual(repr(TREE), kept)

    def test_no_tree(self):
        for thing in (None, [], "a", 3, (None,), (("return", A),)):
            refusal(self, NoTree, parts, thing)
            refusal(self, NoTree, part_at, thing, ())
            refusal(self, NoTree, part_at, thing, "no path")


def things_below(thing, path=()):
    """All things in a tuple with their paths."""
    told = [(path, thing)]
    if isinstance(thing, tuple):
        for at, part in enumerate(thing):
            told.extend(things_below(part, (*path, at)))
    return told


class PartAt(unittest.TestCase):

    def test_all_things(self):
        for tree in [TREE, *[tree for tree, _ in EACH]]:
            for path, thing in things_below(tree):
                self.assertEqual(part_at(tree, path), thing)

    def test_named_ones(self):
        self.assertEqual(part_at(TREE, ()), TREE)
        self.assertEqual(part_at(TREE, (1,)), TREE[1])
        self.assertEqual(part_at(TREE, (0, 0)), "let")
        self.assertEqual(part_at(TREE, (0, 1, 0)), ("x", num(1)))
        self.assertEqual(part_at(TREE, (0, 1, 0, 0)), "x")
        self.assertEqual(part_at(TREE, (0, 1, 0, 1, 1)), 1)
        self.assertEqual(part_at(TREE, (0, 1, 1, 1, 2, 0, 1, 1)), "+")
        self.assertIsNone(part_at(TREE, (1, 3)))
        self.assertEqual(part_at(TREE, (2, 1)), ())
        self.assertEqual(part_at(TREE, (2, 3, 0, 3, 1)), (("l", B),))
        self.assertEqual(part_at(tree=(), path=()), ())

    def test_nothing_stands_there(self):
        for path in ((3,), (0, 2), (1, 4), (0, 0, 0), (1, 3, 0), (0, 1, 0, 0, 0), (0, 1, 0, 1, 1, 0), (2, 1, 0),
                     (10 ** 29,), (0, 1, 2)):
            refusal(self, NoPath, part_at, TREE, path)
        refusal(self, NoPath, part_at, (), (0,))

    def test_no_paths(self):
        for path in (None, 0, 1, True, "", "0", [], [0], [0, 1], (-1,), (0, -1), (True,), (False,), (0, True), ("0",),
                     (0, "1"), (None,), ((),), ((0,),), (0, [1]), ("let",)):
            refusal(self, NoPath, part_at, TREE, path)


if __name__ == "__main__":
    unittest.main()
