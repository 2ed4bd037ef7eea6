"""[19], [20]: namings, what they cost, and a fair one."""

import unittest

from helper import KEPT, asked_again, do, live_trees, name, num, refusal, thing_at, trees_at_random
from leanscript.errors import NoLetters, NoNaming, NoTree
from leanscript.naming import barred, cost, fair, hinder, named
from leanscript.reading import read
from leanscript.rooms import bindings, outers, rooms
from leanscript.supply import supply
from leanscript.writing import tight
from programs import PROGRAMS
from test_supply import NO_LETTERS

TREES = [read(text) for text in PROGRAMS] + live_trees(60) + trees_at_random(150)
WRONG = (None, True, 0, "", "ab", (), ("a",), {}, {"a": 1})
NO_TREES = ((None, (), "kind"), ([], (), "kind"), ((do(num(-1)),), (0, 1, 1), "number"), ((("set", "x", name("a")),), (0,), "set"),
            ((do(num(1)),) * 151, (), "great"))


def names_of(tree):
    return [x for x, _, _ in bindings(tree)]


def unlike(many):
    """So many unlike names that stand in no tree here."""
    return ["q" + chr(97 + i // 26) + chr(97 + i % 26) for i in range(many)]


def lies_in(path, room):
    return path[:len(room)] == room


def homes(tree):
    """For each binding the path of its room."""
    found = {number: path for path, numbers in rooms(tree) for number in numbers}
    return [found[number] for number in range(len(found))]


def hindering_by_words(tree):
    """What hinder tells, pair by pair, by the paths of rooms and uses."""
    home, rows = homes(tree), bindings(tree)

    def crosses(one, other):
        inner = home[other] != home[one] and lies_in(home[other], home[one])
        return inner and any(lies_in(use, home[other]) for use in rows[one][2])

    return [(i, j) for i in range(len(rows)) for j in range(i + 1, len(rows))
            if home[i] == home[j] or crosses(i, j) or crosses(j, i)]


def barred_by_words(tree):
    return [[x for x, uses in outers(tree) if any(lies_in(use, home) for use in uses)] for home in homes(tree)]


class Hinder(unittest.TestCase):

    def tells(self, text, pairs, bars):
        tree = read(text)
        self.assertEqual((hinder(tree), barred(tree)), (pairs, bars), text)

    def test_one_room(self):
        self.tells("", [], [])
        self.tells("let a = 1", [], [[]])
        self.tells("let a = 1, b = 2; let c = 3", [(0, 1), (0, 2), (1, 2)], [[], [], []])
        self.tells("fn (a, b) { let c = 1 }", [(0, 1), (0, 2), (1, 2)], [[], [], []])
        self.tells("try { let c = 1 } catch (a) { let b = 1 }", [(1, 2)], [[], [], []])
        self.tells("if (1) let a = 1, b = 2; else let c = 3", [(0, 1)], [[], [], []])

    def test_rooms_within_rooms(self):
        self.tells("let a = 1; { let b = 2 }", [], [[], []])
        self.tells("let a = 1; { let b = 2; a }", [(0, 1)], [[], []])
        self.tells("let a = 1; { let b = 2; a = 3 }", [(0, 1)], [[], []])
        self.tells("let a = 1; { let b = 2; b } a", [], [[], []])
        self.tells("{ let b = 2; a } let a = 1", [(0, 1)], [[], []])
        self.tells("let a = 1; { let b = 2; { a } }", [(0, 1)], [[], []])
        self.tells("let a = 1; { { let b = 2 } a }", [], [[], []])
        self.tells("let a = 1; { let b = 2; { let c = 3; b } }", [(1, 2)], [[], [], []])
        self.tells("let a = 1; { let b = 2; { let c = 3; a } }", [(0, 1), (0, 2)], [[], [], []])
        self.tells("let a = 1; { let b = 2 } { let c = 3; a }", [(0, 2)], [[], [], []])
        self.tells("let f = fn (a) a; f(1)", [], [[], []])
        self.tells("let f = fn (a) f(a)", [(0, 1)], [[], []])
        self.tells("let a = 1; while (a) let b = 2", [], [[], []])
        self.tells("let a = 1; while (1) let b = a", [(0, 1)], [[], []])
        self.tells("let a = 1; try { a } catch (b) {}", [], [[], []])
        self.tells("let a = 1; try {} catch (b) { a }", [(0, 1)], [[], []])

    def test_like_names(self):
        self.tells("let x = 1; { let x = 2; x } x", [], [[], []])
        self.tells("let x = 1; { let x = 2; { let x = 3; x } x } x", [], [[], [], []])
        self.tells("let x = 1, y = 1; { let x = 2; y; { let y = 3; x } }", [(0, 1), (1, 2), (2, 3)], [[], [], [], []])

    def test_outer_names(self):
        self.tells("z; let a = 1; a; y; z", [], [["y", "z"]])
        self.tells("let a = 1; { let b = 2; z; y; z } w", [], [["w", "y", "z"], ["y", "z"]])
        self.tells("let a = 1; { let b = z } { let c = y }", [], [["y", "z"], ["z"], ["y"]])
        self.tells("b; { let b = 1; b }", [], [[]])
        self.tells("fn (a) a + q; let b = 1", [], [["q"], ["q"]])
        self.tells("let a = b.k; [l: 1].m = 2", [], [["b"]])

    def test_at_random_by_the_words(self):
        for tree in TREES:
            self.assertEqual(hinder(tree), hindering_by_words(tree))
            self.assertEqual(barred(tree), barred_by_words(tree))
            self.assertTrue(all(type(pair) is tuple for pair in hinder(tree)))

    def test_those_that_hinder_one_another_can_have_no_one_name_and_all_others_can(self):
        for tree in TREES[::4]:
            many = len(bindings(tree))
            pairs = hinder(tree)
            for i in range(min(many, 7)):
                for j in range(i + 1, min(many, 7)):
                    names = unlike(many)
                    names[j] = names[i]
                    changed = put_by_hand(tree, names)
                    self.assertEqual((i, j) not in pairs, is_alike(tree, changed), (tree, i, j))


def put_by_hand(tree, names):
    """A tree in which names stand at all places of the bindings, whatever they come to mean."""
    told = tree
    for (_, path, uses), new in zip(bindings(tree), names):
        for place in (path, *uses):
            told = with_thing(told, place if isinstance(thing_at(tree, place), str) else (*place, 1), new)
    return told


def with_thing(tree, path, thing):
    if path == ():
        return thing
    return (*tree[:path[0]], with_thing(tree[path[0]], path[1:], thing), *tree[path[0] + 1:])


def is_alike(tree, other):
    """Whether another tree is one, and its names mean what those at their places meant."""
    try:
        rows = bindings(other)
    except NoTree:
        return False
    return [row[1:] for row in rows] == [row[1:] for row in bindings(tree)] and outers(other) == outers(tree)


class Named(unittest.TestCase):

    def test_told_by_hand(self):
        tree = read("let x = 1; { x = x + y; let z = [x: x].x; z.x = fn (x, w) { x = w; return x } } try {} catch (e) { out e }")
        told = named(tree, ["a", "b", "a", "c", "a"])
        self.assertEqual(tight(told), "let a=1;{a=a+y;let b=[x:a].x;b.x=fn(a,c){a=c;return a}}try{}catch(a){out a}")

    def test_its_own_names_tell_the_tree(self):
        for tree in TREES:
            self.assertEqual(named(tree, names_of(tree)), tree)

    def test_new_names_stand_where_the_others_stood(self):
        for tree in TREES:
            for names in (unlike(len(bindings(tree))), fair(tree, "ab")):
                kept = repr((tree, names))
                told = named(tree, names)
                self.assertEqual(repr((tree, names)), kept)
                self.assertEqual(bindings(told), [(x, path, uses) for x, (_, path, uses) in zip(names, bindings(tree))])
                self.assertEqual((outers(told), rooms(told)), (outers(tree), rooms(tree)))
                self.assertEqual(named(told, names_of(tree)), tree)
                self.assertEqual(told, put_by_hand(tree, names))

    def refuses(self, tree, naming, one, other):
        for call in (named, cost):
            error = refusal(self, NoNaming, call, tree, naming)
            self.assertEqual((error.one, error.other), (one, other), naming)

    def test_no_lists_of_as_many_names(self):
        tree = read("let a = 1; { let b = 2; b }")
        for naming in (("a", "b"), "ab", None, True, 2, {}, {"a": 1, "b": 2}, [], ["a"], ["a", "b", "c"], ["a", None], [None, "b"],
                       ["a", ""], ["a", "B"], ["a1", "b"], ["a", "thirteensigns"], ["a", 1], ["a", ["b"]], [("a",), "b"], ["a b", "c"],
                       [True, False], ["a", "b "], *[["a", word] for word in KEPT], *[[word, "a"] for word in KEPT]):
            self.refuses(tree, naming, None, None)
        self.refuses((), ["a"], None, None)
        self.refuses((), (), None, None)
        self.assertEqual(named((), []), ())
        self.assertEqual(named(tree, ["a", "twelvesignsx"])[0], tree[0])

    def test_pairs_that_hinder_one_another(self):
        tree = read("let a = 1, b = 2; { let c = b; { let d = c; b } }")
        self.assertEqual(hinder(tree), [(0, 1), (1, 2), (1, 3), (2, 3)])
        self.refuses(tree, ["x", "x", "y", "z"], 0, 1)
        self.refuses(tree, ["x", "x", "x", "x"], 0, 1)
        self.refuses(tree, ["w", "x", "x", "x"], 1, 2)
        self.refuses(tree, ["w", "x", "y", "x"], 1, 3)
        self.refuses(tree, ["w", "x", "y", "y"], 2, 3)
        self.assertEqual(names_of(named(tree, ["w", "x", "w", "z"])), ["w", "x", "w", "z"])
        self.assertEqual(names_of(named(tree, ["w", "x", "z", "w"])), ["w", "x", "z", "w"])

    def test_names_that_are_barred(self):
        tree = read("let a = y; { let b = z; { let c = 1 } }")
        self.assertEqual(barred(tree), [["y", "z"], ["z"], []])
        self.refuses(tree, ["y", "z", "b"], 0, "y")
        self.refuses(tree, ["z", "z", "b"], 0, "z")
        self.refuses(tree, ["a", "z", "b"], 1, "z")
        self.assertEqual(tight(named(tree, ["a", "y", "z"])), "let a=y;{let y=z;{let z=1}}")

    def test_several_faults_at_once(self):
        tree = read("let a = y, b = 1; { let c = z; b }")
        self.refuses(tree, ["y", "z", "z"], 1, 2)
        self.refuses(tree, ["y", "y", "z"], 0, 1)
        self.refuses(tree, ["z", "x", "z"], 0, "z")
        self.refuses(tree, ["x", "y", "z"], 1, "y")
        self.refuses(tree, ["x", "x", "1"], None, None)
        self.refuses(tree, ["x", "x"], None, None)
        self.refuses(tree, ("y", "y", "y"), None, None)
        self.refuses(tree, ["y", "y", "if"], None, None)

    def test_no_trees_go_ahead(self):
        for thing, path, why in NO_TREES:
            for call, more in ((hinder, ()), (barred, ()), (named, ([],)), (named, (None,)), (cost, ("",)), (fair, ("ab",)), (fair, (1,))):
                error = refusal(self, NoTree, call, thing, *more)
                self.assertEqual((error.path, error.why), (path, why))

    def test_again_and_by_name(self):
        tree = read("let a = 1, b = z; { let c = b; fn (d) c }")
        for call in (hinder, barred):
            asked_again(self, call, tree)
            self.assertEqual(call(tree=tree), call(tree))
        naming = ["w", "x", "y", "w"]
        asked_again(self, named, tree, naming)
        self.assertEqual(named(naming=naming, tree=tree), named(tree, naming))
        self.assertEqual(cost(naming=naming, tree=tree), cost(tree, naming))
        asked_again(self, fair, tree, "ab")
        self.assertEqual(fair(letters="ab", tree=tree), fair(tree, "ab"))


def fair_by_words(tree, letters):
    rows, pairs, bars = bindings(tree), hinder(tree), barred(tree)
    told = [None] * len(rows)
    names = supply(letters, 400)
    for i in sorted(range(len(rows)), key=lambda i: (-len(rows[i][2]), i)):
        taken = [told[j] for j in range(len(rows)) if (i, j) in pairs or (j, i) in pairs]
        told[i] = next(x for x in names if x not in bars[i] and x not in taken)
    return told


class Cost(unittest.TestCase):

    def test_told_by_hand(self):
        tree = read("let x = 1; x; x = 2; { let long = x; }")
        self.assertEqual(cost(tree, ["x", "long"]), 4 + 4)
        self.assertEqual(cost(tree, ["abc", "d"]), 12 + 1)
        self.assertEqual(cost((), []), 0)
        self.assertIs(type(cost((), [])), int)

    def test_signs_saved_are_those_of_the_text(self):
        for tree in TREES[::3]:
            names = fair(tree, "xyz")
            plain = ["q" * 12 for _ in names]
            longer = [("z" + chr(97 + i // 26) + chr(97 + i % 26) + "q" * 12)[:12] for i in range(len(plain))]
            saved = cost(tree, longer) - cost(tree, names)
            self.assertEqual(len(tight(named(tree, longer))) - len(tight(named(tree, names))), saved)


class Fair(unittest.TestCase):

    def test_greater_counts_first(self):
        self.assertEqual(fair(read("let a = 1, b = b; b"), "xy"), ["y", "x"])
        self.assertEqual(fair(read("let a = 1, b = 2, c = 3; c; b; c"), "xy"), ["xx", "y", "x"])
        self.assertEqual(fair(read("let a = 1; a = 1; let b = 2"), "xy"), ["x", "y"])

    def test_of_like_ones_the_lesser_number(self):
        self.assertEqual(fair(read("let c = 1, b = 2, a = 3"), "ba"), ["b", "a", "bb"])
        self.assertEqual(fair(read("let c = 1; { let b = 2; c; b }"), "ba"), ["b", "a"])

    def test_names_of_the_supply_that_are_free(self):
        self.assertEqual(fair(read("let p = a; { let q = b; q }"), "abcd"), ["c", "a"])
        self.assertEqual(fair(read("let p = 1; { let q = p }"), "ab"), ["a", "b"])
        self.assertEqual(fair(read("let p = 1; p; { let q = 2 }"), "ab"), ["a", "a"])
        self.assertEqual(fair(read("fn (p, q, r) 1"), "if"), ["i", "f", "ii"])
        self.assertEqual(fair(read("fn (p, q, r, s) 1"), "if"), ["i", "f", "ii", "fi"])
        self.assertEqual(fair((), "ab"), [])

    def test_more_bindings_than_letters(self):
        text = "let " + ", ".join(f"{x} = 1" for x in unlike(100))
        self.assertEqual(fair(read(text), "ab"), supply("ab", 100))
        self.assertEqual(fair(read(text + "; a; bb; z"), "ab"), [x for x in supply("ab", 102) if x not in ("a", "bb")])
        wide = "k(" + ", ".join(supply("ba", 250)) + "); let zz = 1, zy = 2"
        self.assertEqual(fair(read(wide), "ab"), [x for x in supply("ab", 300) if x not in supply("ba", 250)][:2])

    def test_by_the_words(self):
        for at, tree in enumerate(TREES):
            for letters in (("ab", "bca") if at % 2 else ("dcab", "if")):
                self.assertEqual(fair(tree, letters), fair_by_words(tree, letters))
                self.assertIs(type(fair(tree, letters)), list)

    def test_no_letters(self):
        for letters in NO_LETTERS:
            refusal(self, NoLetters, fair, (), letters)
            refusal(self, NoLetters, fair, read("let a = 1"), letters)


if __name__ == "__main__":
    unittest.main()
