"""[22]: properties, and namings of them."""

import itertools
import unittest

from helper import KEPT, asked_again, do, live_trees, name, num, refusal, thing_at, trees_at_random
from leanscript.errors import NoLetters, NoNaming, NoTree
from leanscript.properties import properties, props_least, props_named
from leanscript.reading import read, spots
from leanscript.rooms import bindings, outers
from leanscript.supply import supply
from leanscript.teller import run
from leanscript.writing import tight
from programs import INS, PROGRAMS
from test_supply import NO_LETTERS

TREES = [read(text) for text in PROGRAMS] + live_trees(60) + trees_at_random(100)
MIXED = "let k = [k: 1, l: 2]; k.l = k.k + [m: k].m.zz; fn (l) l.k; get.rec"


def property_counts(tree):
    """How often each property stands, by the spots of the text: names with a path of their own that are no bindings'."""
    text = tight(tree)
    names = {place for _, place, uses in bindings(tree) for place in (place, *uses)}
    found = {}
    for path, begin, end in spots(text):
        if isinstance(thing_at(tree, path), str) and path not in names:
            found[text[begin:end]] = found.get(text[begin:end], 0) + 1
    return sorted(found.items())


class Properties(unittest.TestCase):

    def test_told_by_hand(self):
        self.assertEqual(properties(()), [])
        self.assertEqual(properties(read("let a = b; a.c; [d: 1, c: 2]; a.c = a.e")), [("c", 3), ("d", 1), ("e", 1)])
        self.assertEqual(properties(read(MIXED)), [("k", 3), ("l", 2), ("m", 2), ("rec", 1), ("zz", 1)])
        self.assertEqual(properties(read("z.b.a.b.b")), [("a", 1), ("b", 3)])
        self.assertEqual(properties(read("fn (x) [y: fn () x.y]; try { z.y } catch (y) { y }")), [("y", 3)])

    def test_by_the_text(self):
        for tree in TREES:
            told = properties(tree)
            self.assertEqual(told, property_counts(tree))
            self.assertTrue(all(type(row) is tuple for row in told))

    def test_no_trees_go_ahead(self):
        for thing, path, why in ((None, (), "kind"), ([], (), "kind"), ((do(num(-1)),), (0, 1, 1), "number"),
                                 ((("set", "x", name("a")),), (0,), "set"), ((do(num(1)),) * 151, (), "great")):
            for call, more in ((properties, ()), (props_named, ((), None)), (props_named, (["a"], [])), (props_least, ((), "ab")),
                               (props_least, ((), None))):
                error = refusal(self, NoTree, call, thing, *more)
                self.assertEqual((error.path, error.why), (path, why))

    def test_again_and_by_name(self):
        tree = read(MIXED)
        kept = repr(tree)
        asked_again(self, properties, tree)
        asked_again(self, props_least, tree, ("k",), "ab")
        keep, names = ["k"], ["k", "a", "b", "c", "d"]
        asked_again(self, props_named, tree, keep, names)
        self.assertEqual(properties(tree=tree), properties(tree))
        self.assertEqual(props_named(names=names, keep=keep, tree=tree), props_named(tree, keep, names))
        self.assertEqual(props_least(letters="ab", keep=keep, tree=tree), props_least(tree, keep, "ab"))
        self.assertEqual((repr(tree), keep, names), (kept, ["k"], ["k", "a", "b", "c", "d"]))


class PropsNamed(unittest.TestCase):

    def test_told_by_hand(self):
        tree = read(MIXED)
        told = props_named(tree, [], ["a", "b", "k", "d", "e"])
        self.assertEqual(tight(told), "let k=[a:1,b:2];k.b=k.a+[k:k].k.e;fn(l)l.a;get.d")
        self.assertEqual(props_named(tree, (), ["l", "k", "m", "rec", "zz"]), read(
            "let k = [l: 1, k: 2]; k.k = k.l + [m: k].m.zz; fn (l) l.l; get.rec"))

    def test_their_own_names_tell_the_tree(self):
        for tree in TREES:
            ks = [k for k, _ in properties(tree)]
            for keep in ([], (), ks, tuple(ks), ks[:1], ["zzz", *ks]):
                self.assertEqual(props_named(tree, keep, ks), tree)

    def test_all_else_stays(self):
        for tree in TREES:
            ks = [k for k, _ in properties(tree)]
            new = ["q" + k[:11] for k in ks]
            told = props_named(tree, (), new)
            self.assertEqual(bindings(told), bindings(tree))
            self.assertEqual(outers(told), outers(tree))
            self.assertEqual(properties(told), [(x, count) for x, (_, count) in zip(new, properties(tree))])
            self.assertEqual(props_named(told, (), ks), tree)

    def test_it_runs_alike_where_those_of_the_ins_are_kept(self):
        for tree in TREES:
            for keep in (["a"], ("a", "b"), ("a", "never", "b", "ab")):
                names = props_least(tree, keep, "xab")
                told = props_named(tree, keep, names)
                for ins in (INS, {"b": {"a": 1}, "c": {"a": 3}, "a": {}}):
                    self.assertEqual(run(told, ins), run(tree, ins))

    def refuses(self, tree, keep, names, one, other):
        error = refusal(self, NoNaming, props_named, tree, keep, names)
        self.assertEqual((error.one, error.other), (one, other), names)

    def test_no_lists_of_as_many_unlike_names(self):
        tree = read("[a: 1, b: 2]")
        for names in (("x", "y"), "xy", None, True, 2, {}, {"x": 1, "y": 2}, [], ["x"], ["x", "y", "z"], ["x", "x"], ["a", "a"], ["x", None],
                      [None, "x"], ["x", ""], ["X", "y"], ["x1", "y"], ["x", "thirteensigns"], ["x", 1], [["x"], "y"], [("x",), "y"],
                      [True, False], *[["x", word] for word in KEPT], *[[word, "x"] for word in KEPT]):
            for keep in ((), ["a"], ("b", "a")):
                self.refuses(tree, keep, names, None, None)
        self.refuses((), (), (), None, None)
        self.refuses((), (), ["a"], None, None)
        self.assertEqual(props_named((), ["a"], []), ())

    def test_kept_ones(self):
        tree = read("[a: 1, b: 2, c: 3]")
        for keep in (["b"], ("b",)):
            self.refuses(tree, keep, ["x", "y", "z"], 1, "y")
            self.refuses(tree, keep, ["b", "x", "z"], 0, "b")
            self.refuses(tree, keep, ["b", "a", "z"], 0, "b")
            self.refuses(tree, keep, ["x", "y", "b"], 1, "y")
            self.refuses(tree, keep, ["a", "c", "b"], 1, "c")
            self.assertEqual(props_named(tree, keep, ["c", "b", "a"]), read("[c: 1, b: 2, a: 3]"))
        for keep in (["b", "c", "k"], ("k", "c", "b")):
            self.refuses(tree, keep, ["x", "c", "b"], 1, "c")
            self.refuses(tree, keep, ["k", "c", "b"], 0, "k")
            self.refuses(tree, keep, ["c", "b", "x"], 0, "c")
            self.refuses(tree, keep, ["k", "b", "c"], 0, "k")
            self.refuses(tree, keep, ["x", "b", "k"], 2, "k")
        self.refuses(tree, ["k"], ["x", "y", "k"], 2, "k")
        self.assertEqual(props_named(tree, ["k"], ["x", "y", "z"]), read("[x: 1, y: 2, z: 3]"))
        self.assertEqual(props_named(tree, ["k"], ["b", "c", "a"]), read("[b: 1, c: 2, a: 3]"))


class PropsLeast(unittest.TestCase):

    def test_told_by_hand(self):
        tree = read("[one: z.two, two: z.two, three: 1]")
        self.assertEqual(properties(tree), [("one", 1), ("three", 1), ("two", 3)])
        self.assertEqual(props_least(tree, (), "xy"), ["y", "xx", "x"])
        self.assertEqual(props_least(tree, (), "yx"), ["x", "yy", "y"])
        self.assertEqual(props_least(tree, ["two"], "xy"), ["x", "y", "two"])
        self.assertEqual(props_least(tree, ("x",), "xy"), ["xx", "xy", "y"])
        self.assertEqual(props_least(tree, ["x", "y", "xy"], "xy"), ["yx", "yy", "xx"])
        self.assertEqual(props_least(tree, ["three", "x"], "xy"), ["xx", "three", "y"])
        self.assertEqual(props_least(tree, ["one", "two", "three", "four"], "xy"), ["one", "three", "two"])
        self.assertEqual(props_least((), ["x"], "xy"), [])
        self.assertEqual(props_least(read("[a: 1, b: 1, c: 1, d: 1]"), (), "if"), ["i", "f", "ii", "fi"])

    def test_more_than_the_supply_tells_at_once(self):
        ks = ["q" + chr(97 + i // 26) + chr(97 + i % 26) for i in range(250)]
        tree = (do(("rec", tuple((k, num(1)) for k in ks))),)
        keep = supply("ab", 400)
        told = props_least(tree, keep, "ab")
        free = ["".join(x) for size in (8, 9) for x in itertools.product("ab", repeat=size) if "".join(x) not in keep]
        self.assertEqual(told, free[:250])
        self.assertEqual([k for k, _ in properties(props_named(tree, keep, told))], sorted(told))

    def test_no_other_naming_is_shorter(self):
        for tree in TREES:
            rows = properties(tree)
            for keep in ((), ("a",), ["b", "x", "zz"]):
                told = props_least(tree, keep, "xyz")
                self.assertIs(type(told), list)
                self.assertEqual(tight(props_named(tree, keep, told)), tight(props_named(tree, list(keep), told)))
                others = [count for k, count in rows if k not in keep]
                free = [x for x in supply("xyz", len(others) + len(keep)) if x not in keep][:len(others)]
                self.assertEqual(sorted(x for x, (k, _) in zip(told, rows) if k not in keep), sorted(free))
                spent = sum(len(x) * count for x, (k, count) in zip(told, rows) if k not in keep)
                if len(others) <= 5:
                    self.assertEqual(spent, min(sum(len(x) * count for x, count in zip(row, others))
                                                for row in itertools.permutations(free)))
                for x, (k, _) in zip(told, rows):
                    self.assertTrue(x == k if k in keep else x not in keep)

    def test_no_letters(self):
        for letters in NO_LETTERS:
            for text in ("", "[a: 1]"):
                refusal(self, NoLetters, props_least, read(text), (), letters)


if __name__ == "__main__":
    unittest.main()
