"""[21]: least namings, and their papers."""

import random
import unittest

from helper import KEPT, asked_again, do, name, num, refusal, spoil
from leanscript.errors import NoLetters, NoNaming, NoTree, TooMany
from leanscript.leastnames import least_naming, naming_judged
from leanscript.naming import barred, cost, hinder, named
from leanscript.reading import read
from leanscript.rooms import bindings
from leanscript.supply import supply
from test_supply import NO_LETTERS

# Trees for which lots alone don't do: what is written often lies in two rooms that are full each.
GAPS = (
    "let c = 1; c; c; c; { let a = 1, b = 1; c } { let d = 1, e = 1; c }",
    "let c = 1; c; c; c; { let a = 1, b = 1; a; c } { let d = 1, e = 1; d; d; c }",
    "let d = 1; d; d; d; d; { let a = 1, b = 1, c = 1; d } { let e = 1, f = 1, g = 1; d }",
    "let d = 1; d; d; { let a = 1, b = 1; d } { let e = 1, f = 1; d } { let g = 1, h = 1; d }",
)
# Such with names that are barred for some bindings alone.
BARS = (
    "let a = 1, b = 1, c = 1, d = 1; b; b; b; y; { let g = 1; d } { let e = 1, f = 1; b; b; b; e; e; e }",
    "let a = 1; { let b = 1, c = 1; a; c; { let e = 1; c; e; e; e; e; e; e } { let d = 1; c; c; c; c; d; d; y } }",
    "let a = 1, b = 1; b; y; { let f = 1; b; f; f; f } { let c = 1, d = 1; d; { let e = 1; b; c; c; c; d } }",
    "let g = 1; { let d = 1; d; x } { let b = 1; g; { let e = 1; b; e } { let c = 1; b; b; { let f = 1; b; b; b; y } } }",
)
PLAIN = (
    "", "out k", "let a = 1", "let a = 1; a; a", "let long = k; long", "fn (x, y) x + y", "let a = 1, b = 2, c = 3; c; c; b",
    "let a = 1; { let a = 2; a } a", "let a = p; { let b = q; b; b } r", "let f = fn (n) n < 2 ? n : f(n - 1) + f(n - 2); out f(k)",
    "try { let a = 1 } catch (x) { let b = x, c = b; c }", "let a = 1, b = 2, c = 3, d = 4, e = 5, f = 6, g = 7",
    "let a = 1, b = 2, c = 3, d = 4, e = 5, f = 6, g = 7; g; g; g; f; e; d; d; a; b; c",
    "let w = 1; { let x = w; { let y = x; { let z = y; { let v = z; { let u = v; { let t = u } } } } } }",
    "let w = 1; { let x = w; { let y = x + w; { let z = y + x + w; { let v = z + w } } } } a; b",
)


def rooms_at_random(seed, many, outer):
    """A tree of so many bindings in rooms within rooms, with uses and outer names here and there."""
    rng = random.Random(seed)
    around, home = [None], []
    for _ in range(many):
        if rng.random() < 0.6:
            around.append(rng.randrange(len(around)))
            home.append(len(around) - 1)
        else:
            home.append(rng.randrange(len(around)))

    def is_within(room, other):
        while room is not None and room != other:
            room = around[room]
        return room == other

    told = [[("let", ((f"v{'abcdefg'[i]}", num(1)),)) for i in range(many) if home[i] == room] for room in range(len(around))]
    for i in range(many):
        inner = [room for room in range(len(around)) if is_within(room, home[i])]
        for _ in range(rng.choice((0, 1, 1, 2, 3, 6))):
            told[rng.choice(inner)].append(do(name(f"v{'abcdefg'[i]}")))
    for x in outer:
        told[rng.randrange(len(around))].append(do(name(x)))
    for room in range(len(around) - 1, 0, -1):
        told[around[room]].append(("block", tuple(told[room])))
    return tuple(told[0])


class Words:
    """What the document says of a tree and of letters, gone through one by one."""

    def __init__(self, tree, letters):
        self.tree = tree
        self.counts = [1 + len(uses) for _, _, uses in bindings(tree)]
        self.many = len(self.counts)
        self.pairs = hinder(tree)
        self.bars = barred(tree)
        self.names = supply(letters, 60)
        self.floors = {}

    def hinders(self, i, j):
        return (i, j) in self.pairs or (j, i) in self.pairs

    def needs(self, i):
        return 1 + len([j for j in range(self.many) if self.hinders(i, j)]) + len(self.bars[i])

    def least(self, numbers, clash, options):
        """The least cost of names of some bindings, tried one by one."""
        best = [None]

        def go_on(at, given, spent):
            if best[0] is not None and spent + sum(self.counts[i] for i in numbers[at:]) >= best[0]:
                return
            if at == len(numbers):
                best[0] = spent
                return
            for x in options(numbers[at]):
                if not any(x == other and clash(numbers[at], i) for i, other in given.items()):
                    go_on(at + 1, {**given, numbers[at]: x}, spent + len(x) * self.counts[numbers[at]])

        go_on(0, {}, 0)
        return best[0]

    def least_cost(self):
        return self.least(list(range(self.many)), self.hinders,
                          lambda i: [x for x in self.names[:self.needs(i)] if x not in self.bars[i]])

    def floor(self, lot, fixed):
        key = (tuple(lot), tuple(sorted((i, x) for i, x in fixed.items() if i in lot)))
        if key not in self.floors:
            fit = self.names[:len(lot) + max([0] + [len(self.bars[i]) for i in lot])]
            self.floors[key] = self.least(lot, lambda i, j: True,
                                          lambda i: [fixed[i]] if i in fixed else [x for x in fit if x not in self.bars[i]])
        return self.floors[key]

    def judged(self, naming, paper):
        try:
            named(self.tree, naming)
        except NoNaming:
            return False
        self.spent = sum(len(x) * count for x, count in zip(naming, self.counts))
        return self.holds(paper, {})

    def holds(self, paper, fixed):
        if type(paper) is not tuple:
            return False
        if len(paper) == 2 and paper[0] == "lots" and type(paper[1]) is list:
            lots = paper[1]
            if any(type(lot) is not list for lot in lots) or any(type(i) is not int for lot in lots for i in lot):
                return False
            if sorted(i for lot in lots for i in lot) != list(range(self.many)):
                return False
            if any(i != j and not self.hinders(i, j) for lot in lots for i in lot for j in lot):
                return False
            return sum(self.floor(lot, fixed) for lot in lots) >= self.spent
        if len(paper) == 3 and paper[0] == "cases" and type(paper[1]) is int and type(paper[2]) is list:
            i, papers = paper[1:]
            if i not in range(self.many) or i in fixed or len(papers) != self.needs(i):
                return False
            for x, inner in zip(self.names, papers):
                out = x in self.bars[i] or any(self.hinders(i, j) and fixed[j] == x for j in fixed)
                if inner is not None if out else not self.holds(inner, {**fixed, i: x}):
                    return False
            return True
        return False

    def all_cases(self, i=0, fixed=None):
        """The paper that goes through all names of all bindings."""
        fixed = fixed or {}
        if i == self.many:
            return ("lots", [[i] for i in range(self.many)])
        papers = []
        for x in self.names[:self.needs(i)]:
            out = x in self.bars[i] or any(self.hinders(i, j) and fixed[j] == x for j in fixed)
            papers.append(None if out else self.all_cases(i + 1, {**fixed, i: x}))
        return ("cases", i, papers)


class Least(unittest.TestCase):

    def is_least(self, tree, letters):
        told = least_naming(tree, letters)
        self.assertEqual((type(told), len(told)), (tuple, 2))
        naming, paper = told
        words = Words(tree, letters)
        self.assertIs(type(naming), list)
        self.assertTrue(all(x in words.names for x in naming))
        self.assertEqual(cost(tree, naming), words.least_cost())
        self.assertTrue(words.judged(naming, paper))
        self.assertIs(naming_judged(tree, letters, naming, paper), True)
        return told

    def test_plain_trees(self):
        for text in PLAIN + GAPS:
            for letters in ("ab", "ba", "abc", "if", "zyxwv"):
                self.is_least(read(text), letters)

    def test_at_random(self):
        for seed in range(250):
            outer = random.Random(-seed).choice(((), (), ("a",), ("a", "b"), ("b", "aa", "a"), ("aa", "long"), ("x", "y", "z")))
            self.is_least(rooms_at_random(seed, seed % 6, outer), ("ab", "abc")[seed % 2])

    def test_seven_at_random(self):
        for seed in range(60):
            self.is_least(rooms_at_random(seed, 7, ("a", "k")[:seed % 3]), "ab")

    def test_told_by_hand(self):
        self.assertEqual(least_naming((), "ab"), ([], ("lots", [])))
        self.assertEqual(least_naming(read("let long = 1; long"), "xy")[0], ["x"])
        self.assertEqual(least_naming(read("let long = 1; long; x"), "xy")[0], ["y"])
        naming, paper = least_naming(read("let a = 1, b = 2, c = 3; c; c; b; b"), "xy")
        self.assertEqual([len(x) for x in naming], [2, 1, 1])
        self.assertEqual(paper[0], "lots")

    def test_lots_alone_do_not_always_do(self):
        for text in GAPS:
            self.assertEqual(least_naming(read(text), "ab")[1][0], "cases", text)

    def test_names_barred_for_some_alone(self):
        for text in BARS:
            for letters in ("xy", "yx", "xyz"):
                self.is_least(read(text), letters)

    def test_many_outer_names(self):
        for seed in (13, 23, 25, 29, 38, 47):
            tree = rooms_at_random(seed, 7, [f"o{x}{y}" for x in "abcde" for y in "abcdefgh"])
            naming, paper = least_naming(tree, "ab")
            self.assertTrue(naming_judged(tree, "ab", naming, paper))

    def test_too_many(self):
        eight = read("let a = 1, b = 2, c = 3, d = 4, e = 5, f = 6, g = 7, h = 8")
        for letters in ("ab", *NO_LETTERS):
            refusal(self, TooMany, least_naming, eight, letters)
            for naming, paper in ((None, None), (list("abcdefgh"), ("lots", [[0]])), ([], ("lots", []))):
                refusal(self, TooMany, naming_judged, eight, letters, naming, paper)

    def test_no_letters(self):
        for letters in NO_LETTERS:
            for text in ("", "let a = 1"):
                refusal(self, NoLetters, least_naming, read(text), letters)
                for naming in (None, [], ["a"]):
                    refusal(self, NoLetters, naming_judged, read(text), letters, naming, ("lots", []))

    def test_no_trees_go_ahead(self):
        many = (("let", tuple((x, num(1)) for x in "abcdefgh")), do(num(-1)))
        for thing, path, why in ((None, (), "kind"), ([], (), "kind"), (many, (1, 1, 1), "number"), ((do(num(1)),) * 151, (), "great")):
            for call, more in ((least_naming, ("ab",)), (least_naming, (None,)), (naming_judged, ("ab", [], ("lots", []))),
                               (naming_judged, (1, None, None))):
                error = refusal(self, NoTree, call, thing, *more)
                self.assertEqual((error.path, error.why), (path, why))

    def test_again_and_by_name(self):
        for text in GAPS + PLAIN:
            tree = read(text)
            kept = repr(tree)
            asked_again(self, least_naming, tree, "ab")
            naming, paper = least_naming(letters="ab", tree=tree)
            told = repr((naming, paper))
            self.assertTrue(naming_judged(paper=paper, naming=naming, letters="ab", tree=tree))
            self.assertEqual((repr(tree), repr((naming, paper))), (kept, told))
            spoil(least_naming(tree, "ab"))
            self.assertTrue(naming_judged(tree, "ab", naming, paper))


def others(thing):
    """Things that stand in the stead of something in a paper."""
    told = [None, True, False, 0, 1, -1, 99, "", "lots", (), [], ("lots", []), ("cases", 0, []), [[0]], [None]]
    if isinstance(thing, list):
        told.extend([tuple(thing), thing[:-1], thing[1:], thing[::-1], thing + thing[:1], thing + [None], thing + [[]], [thing]])
    if isinstance(thing, tuple):
        told.extend([list(thing), thing[:-1], (*thing, None), thing[::-1], (thing,)])
    if type(thing) is int:
        told.extend([thing + 1, thing - 1, str(thing), (thing,), [thing]])
    return told


def spoilt(paper):
    """All papers that have another thing in the stead of one in it."""
    for thing in others(paper):
        yield thing
    if isinstance(paper, (tuple, list)):
        for at, inner in enumerate(paper):
            for thing in spoilt(inner):
                told = [*paper[:at], thing, *paper[at + 1:]]
                yield tuple(told) if isinstance(paper, tuple) else told


class Judged(unittest.TestCase):

    def tells(self, told, text, letters, naming, paper):
        tree = read(text)
        kept = repr((naming, paper))
        self.assertIs(naming_judged(tree, letters, naming, paper), told, paper)
        self.assertIs(Words(tree, letters).judged(naming, paper), told)
        self.assertEqual(repr((naming, paper)), kept)

    def test_lots(self):
        text = "let a = 1, b = 2, c = 3; { let d = b }"
        good = ["x", "y", "xx", "x"]
        for lots in ([[0, 1, 2], [3]], [[2, 1, 0], [3]], [[3], [0, 2, 1]], [[], [0, 1, 2], [], [3]]):
            self.tells(True, text, "xy", good, ("lots", lots))
        for lots in ([], [[0, 1, 2]], [[0, 1, 2], [3], [3]], [[0, 1, 2], [3, 3]], [[0, 1, 2, 3]], [[0, 1], [2], [3]], [[0, 1, 2], [4]],
                     [[0, 1, 2], [-1]], [[0, 1, 2], [3], [4]], [[0, 1, 2], [None]], [[0, True, 2], [3]], [[False, 1, 2], [3]],
                     [[0, 1, 2], ["3"]], [(0, 1, 2), (3,)], ([0, 1, 2], [3]), None, True, "lots", {}, 3, [[0, 1, 2], 3], [[[0, 1, 2]], [3]]):
            self.tells(False, text, "xy", good, ("lots", lots))
        for paper in (None, True, 0, "lots", "", [], (), ("lots",), ["lots", [[0, 1, 2], [3]]], ("lots", [[0, 1, 2], [3]], None),
                      ("lot", [[0, 1, 2], [3]]), (None, [[0, 1, 2], [3]]), ("cases", [[0, 1, 2], [3]]), (("lots", [[0, 1, 2], [3]]),)):
            self.tells(False, text, "xy", good, paper)

    def test_floors_of_barred_names(self):
        self.tells(True, "let a = x, b = 2", "xy", ["y", "z"], ("lots", [[0], [1]]))
        self.tells(True, "let a = x, b = 2", "xy", ["y", "xx"], ("lots", [[0, 1]]))
        self.tells(False, "let a = x, b = 2", "xy", ["y", "xx"], ("lots", [[0], [1]]))

    def test_cases(self):
        text = "let a = 1; { let b = a }"
        one, both = ("lots", [[0], [1]]), ("lots", [[0, 1]])
        for paper in (("cases", 0, [one, both]), ("cases", 1, [both, one]),
                      ("cases", 0, [("cases", 1, [None, one]), ("cases", 1, [one, None])])):
            self.tells(True, text, "xy", ["x", "y"], paper)
        for paper in (("cases", 0, [one]), ("cases", 0, [one, one, one]), ("cases", 0, [None, one]), ("cases", 0, [one, None]),
                      ("cases", 0, (one, one)), ("cases", 2, [one, one]), ("cases", -1, [one, one]), ("cases", True, [one, one]),
                      ("cases", None, [one, one]), ("cases", 0, []), ("cases", 0, None), ("cases", 0), ("cases", 0, [one, one], None),
                      ("cases", 0, [("cases", 0, [one, one]), one]), ("cases", 0, [("cases", 1, [one, one]), one]),
                      ("cases", 0, [("cases", 1, [None, None]), one]), ("cases", 0, [("cases", 1, [one, None]), one]), ["cases", 0, [one, one]]):
            self.tells(False, text, "xy", ["x", "y"], paper)

    def test_cases_of_barred_names(self):
        text = "let a = y"
        self.tells(True, text, "xy", ["x"], ("cases", 0, [("lots", [[0]]), None]))
        self.tells(False, text, "xy", ["x"], ("cases", 0, [("lots", [[0]]), ("lots", [[0]])]))
        self.tells(False, text, "xy", ["x"], ("cases", 0, [None, ("lots", [[0]])]))
        self.tells(True, text, "yx", ["x"], ("cases", 0, [None, ("lots", [[0]])]))
        self.tells(False, text, "xy", ["y"], ("cases", 0, [("lots", [[0]]), None]))

    def test_all_cases_gone_through(self):
        for text in ("let a = 1", "let a = 1, b = 2; b", "let a = 1; { let b = a; b } x", "let a = 1; { let b = a } { let c = a } k; xx",
                     "let a = 1, b = 1, c = 1; a; b; b; x"):
            tree = read(text)
            words = Words(tree, "xy")
            naming, _ = least_naming(tree, "xy")
            paper = words.all_cases()
            self.tells(True, text, "xy", naming, paper)
            self.tells(False, text, "xy", ["longer" + "abc"[i] for i in range(words.many)], paper)

    def test_dearer_ones(self):
        for text in GAPS + PLAIN[2:]:
            tree = read(text)
            naming, paper = least_naming(tree, "ab")
            for i in range(len(naming)):
                self.assertIs(naming_judged(tree, "ab", [*naming[:i], "zzz" + naming[i], *naming[i + 1:]], paper), False)

    def test_namings_that_named_refuses(self):
        text, paper = "let a = 1, b = k", ("lots", [[0, 1]])
        self.tells(True, text, "xy", ["x", "y"], paper)
        for naming in (["x", "x"], ["k", "x"], ["x", "k"], ["x"], ["x", "y", "z"], ("x", "y"), None, True, 0, "xy", {}, ["x", "if"], ["x", ""],
                       ["x", None], ["X", "y"], [["x"], "y"], *[[word, "x"] for word in KEPT]):
            self.tells(False, text, "xy", naming, paper)

    def test_names_of_other_letters(self):
        paper = ("lots", [[0, 1]])
        self.tells(True, "let a = 1, b = k", "xy", ["p", "q"], paper)
        self.tells(False, "let a = 1, b = k", "xy", ["p", "qq"], paper)
        self.tells(False, "let a = 1, b = 1, c = 1", "xy", ["pp", "qq", "r"], ("lots", [[0, 1, 2]]))
        self.tells(True, "let a = 1, b = 1, c = 1", "xy", ["p", "q", "r"], ("lots", [[0, 1, 2]]))
        self.tells(True, "let a = 1, b = 1, c = 1", "xyz", ["p", "q", "r"], ("lots", [[0, 1, 2]]))

    def test_other_things_anywhere(self):
        for text, letters in ((GAPS[0], "ab"), (PLAIN[4], "ab"), (PLAIN[9], "ba"), (PLAIN[14], "ab"), ("let a = b; { let c = a }", "ab")):
            tree = read(text)
            words = Words(tree, letters)
            naming, paper = least_naming(tree, letters)
            for other in spoilt(paper):
                self.assertIs(naming_judged(tree, letters, naming, other), words.judged(naming, other), other)

    def test_papers_of_other_trees(self):
        rows = [(read(text), *least_naming(read(text), "ab")) for text in GAPS + PLAIN]
        for tree, naming, _ in rows:
            words = Words(tree, "ab")
            for _, _, paper in rows:
                self.assertIs(naming_judged(tree, "ab", naming, paper), words.judged(naming, paper))


if __name__ == "__main__":
    unittest.main()
