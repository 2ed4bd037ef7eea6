"""[31], [32]: texts made short as a whole, and trees held against each other."""

import random
import unittest

from helper import asked_again, do, live_trees, num, refusal, thing_at, trees_at_random
from leanscript.errors import NoLetters, NoText, NoTree
from leanscript.goings import bare
from leanscript.leastnames import least_naming
from leanscript.maps import after, is_map, lead, map_text, read_map
from leanscript.naming import cost, fair, named
from leanscript.properties import properties, props_least, props_named
from leanscript.reading import read
from leanscript.rooms import bindings, outers
from leanscript.search import leaner
from leanscript.teller import run
from leanscript.trees import is_tree
from leanscript.whole import alike, lean, leaned, runs_alike
from leanscript.words import words
from leanscript.writing import plain, tight
from programs import INS, PROGRAMS
from turnable import turnable_trees

LONG = """let total = 0; let index = [first: 0];
while (!!(index.first < bound.last)) { total = total + index.first; index.first = index.first + 1 }
if (0) { let unused = 1 }
out total"""
MANY = "let " + ", ".join("long" + x + " = k" for x in "abcdefgh") + "; out longa + longh + longh"
TEXTS = PROGRAMS + (LONG, MANY) + tuple(tight(tree) for tree in live_trees(12) + turnable_trees(100)) + tuple(plain(tree) for tree in turnable_trees(40, first=4000))
NO_LETTERS = (None, True, 2, "", "a", "aa", "aba", "aB", "a1", "a b", "ab ", ["a", "b"], ("a", "b"), "abcdefghijklmnopqrstuvwxyzz")


def bare_and_lean(tree):
    while True:
        ahead = len(tight(tree))
        tree = leaner(bare(tree))
        if len(tight(tree)) >= ahead:
            return tree


def four_by_words(text, letters, keep):
    """The four trees, by the functions told in the point."""
    first = read(text)
    second = bare_and_lean(first)
    third = named(second, least_naming(second, letters)[0] if len(bindings(second)) <= 7 else fair(second, letters))
    return [first, second, third, props_named(third, keep, props_least(third, keep, letters))]


class Lean(unittest.TestCase):

    def becomes(self, text, letters, *told, keep=()):
        self.assertEqual(leaned(text, letters, keep=keep), list(told))
        short, entries = lean(text, letters, keep=keep)
        self.assertEqual(short, told[-1])
        self.assertIs(is_map(entries, short, text), True)

    def test_the_four_texts(self):
        self.becomes("out 1", "ab", "out 1", "out 1", "out 1", "out 1")
        self.becomes("", "ab", "", "", "", "")
        self.becomes(LONG, "ab", "let total=0;let index=[first:0];while(!!(index.first<bound.last)){total=total+index.first;index.first=index.first+1}"
                     "if(0){let unused=1}out total",
                     "let total=0,index=[first:0];while(index.first<bound.last){total=total+index.first;index.first=index.first+1}out total",
                     "let a=0,b=[first:0];while(b.first<bound.last){a=a+b.first;b.first=b.first+1}out a",
                     "let a=0,b=[a:0];while(b.a<bound.last){a=a+b.a;b.a=b.a+1}out a", keep=["last"])
        self.becomes("let long = [key: k]; out long.key + long.other", "yx", "let long=[key:k];out long.key+long.other", "let long=[key:k];out long.key+long.other",
                     "let y=[key:k];out y.key+y.other", "let y=[y:k];out y.y+y.x")

    def test_kept_properties(self):
        text = "out [one: 1].one + k.two"
        for keep in (["two"], ("two",)):
            self.becomes(text, "ab", "out[one:1].one+k.two", "out[one:1].one+k.two", "out[one:1].one+k.two", "out[a:1].a+k.two", keep=keep)
        for keep in (["one", "two"], ("two", "one", "three")):
            self.becomes(text, "ab", *["out[one:1].one+k.two"] * 4, keep=keep)
        self.assertEqual(leaned(text, "ab", keep=["a"])[3], "out[b:1].b+k.aa")
        self.assertEqual(leaned(text, "ab"), leaned(text, "ab", keep=()))
        self.assertEqual(leaned(text, "ab"), leaned(text, "ab", keep=[]))
        self.assertEqual(leaned(text, "ab")[3], "out[a:1].a+k.b")

    def test_bare_and_lean_again_and_again(self):
        # Only what lean makes of the if lets bare see that f and g use just one another.
        text = "let f = fn () g(), g = fn () f(); if (0) f(); out 1"
        self.assertEqual(tight(leaner(bare(read(text)))), "let f=fn()g(),g=fn()f();out 1")
        self.assertEqual(leaned(text, "ab")[1:], ["out 1"] * 3)

    def test_what_the_last_round_changed_stays(self):
        # Bare puts an empty block in the stead of the 1, by which the text is no shorter.
        self.assertEqual(leaned("while (k) 1; out 2", "ab")[:2], ["while(k)1;out 2", "while(k){}out 2"])

    def test_names_of_many_bindings(self):
        told = leaned(MANY, "ab")
        self.assertEqual(told[2], tight(named(read(told[1]), fair(read(told[1]), "ab"))))
        seven = MANY.replace("longa = k, ", "").replace("longa + ", "")
        self.assertEqual(len(bindings(read(leaned(seven, "ab")[1]))), 7)
        told = leaned(seven, "ab")
        self.assertEqual(told[2], tight(named(read(told[1]), least_naming(read(told[1]), "ab")[0])))

    def test_least_where_fair_is_not(self):
        text = "c; let c = a(); if (-c) { let a = -c; try {} catch (c) { c = c; fail a } }"
        told = leaned(text, "ab")
        tree = read(told[1])
        self.assertEqual((cost(tree, fair(tree, "ab")), cost(tree, least_naming(tree, "ab")[0])), (11, 9))
        self.assertEqual(len(told[2]), len(tight(named(tree, least_naming(tree, "ab")[0]))))
        self.assertLess(len(told[2]), len(tight(named(tree, fair(tree, "ab")))))

    def test_by_the_words(self):
        for at, text in enumerate(TEXTS):
            letters = ("ab", "xyz", "nopqrst")[at % 3]
            keep = [k for k, _ in properties(read(text))][:at % 2]
            trees = four_by_words(text, letters, keep)
            self.assertEqual(leaned(text, letters, keep=keep), [tight(tree) for tree in trees])
            short, entries = lean(text, letters, keep=tuple(keep))
            self.assertEqual(short, tight(trees[3]))
            self.assertIs(is_map(entries, short, text), True)

    def test_it_leads_back(self):
        text = "let long = 1 + 2;\nout long + k"
        short, entries = lean(text, "ab")
        self.assertEqual(short, "out 3+k")
        self.assertEqual([(short[begin:end], text[first:last]) for begin, end, first, last in entries], [("out", "out long + k"), ("3", "long"), ("+", "long + k"), ("k", "k")])

    def test_each_word_of_a_short_text_leads_back(self):
        for text in TEXTS:
            text = tight(read(text))
            short, entries = lean(text, "abc")
            same = [(at, at + len(word), at, at + len(word)) for _, word, at in words(text)]
            self.assertEqual(len(entries), len(words(short)))
            for begin, end, first, last in entries:
                self.assertEqual(lead(entries, begin), (first, last))
                self.assertEqual(lead(entries, end - 1), (first, last))
                self.assertLess(first, last)
            # Each stretch is that of whole words.
            self.assertEqual(after(entries, same), entries)
            self.assertEqual(read_map(map_text(entries)), entries)

    def test_names_cost_no_more_than_the_signs(self):
        for text in TEXTS:
            told = leaned(text, "abc")
            for one in told:
                tree = read(one)
                names = [name for name, _, _ in bindings(tree)]
                self.assertLessEqual(cost(tree, names), len(one))
            second = read(told[1])
            self.assertEqual(len(told[1]) - len(told[2]),
                             cost(second, [name for name, _, _ in bindings(second)]) - cost(read(told[2]), [name for name, _, _ in bindings(read(told[2]))]))

    def test_the_short_text_runs_alike(self):
        tried = 0
        for text in TEXTS + tuple(tight(tree) for tree in live_trees(40) + turnable_trees(150, first=12000)):
            tree = read(text)
            keep = ["a", "b", "c"]
            told = leaned(text, "abcd", keep=keep)
            self.assertLessEqual(len(told[1]), len(told[0]))
            for ins in (INS, {}, {"a": 1, "b": 0, "c": {"a": 2}, "d": -3}, {"k": 0}, {"k": {"a": 1, "b": 2, "c": 3}}):
                end, number, outs, steps = run(tree, ins)
                if end != "long":
                    tried += 1
                    for other in told:
                        other_run = run(read(other), ins)
                        self.assertEqual(other_run[:3], (end, number, outs), (text, other))
                        self.assertLessEqual(other_run[3], steps)
            self.assertIs(runs_alike(tree, read(told[3]), [INS, {}]), True)
        self.assertGreater(tried, 1000)

    def test_letters_ahead_of_the_text(self):
        for call in (lean, leaned):
            for letters in NO_LETTERS:
                for text in ("out 1", "B", "return 1", "if"):
                    refusal(self, NoLetters, call, text, letters)
                    refusal(self, NoLetters, call, text, letters, keep=["a"])
            self.assertEqual(refusal(self, NoText, call, "out B", "ab").at, 4)
            self.assertEqual(refusal(self, NoText, call, "if", "ab").at, 2)
            error = refusal(self, NoTree, call, "return 1", "ab")
            self.assertEqual((error.path, error.why), ((0,), "return"))

    def test_again_and_by_name(self):
        keep = ["last"]
        asked_again(self, lambda: lean(LONG, "ab", keep=keep))
        asked_again(self, lambda: leaned(LONG, "ab", keep=keep))
        self.assertEqual(keep, ["last"])
        self.assertEqual(lean(letters="ab", text=LONG), lean(LONG, "ab"))
        self.assertEqual(leaned(keep=(), letters="ab", text=LONG), leaned(LONG, "ab"))
        for call in (lean, leaned):
            with self.assertRaises(TypeError):
                call(LONG, "ab", ())


class RunsAlike(unittest.TestCase):

    def judged(self, so, one, other, *many):
        self.assertIs(runs_alike(read(one), read(other), list(many)), so, (one, other))

    def test_alike(self):
        self.judged(True, "out 1 + 2", "out 3", {}, {"k": 1})
        self.judged(True, "out 1", "out 2")
        self.judged(True, "fail 3", "fail 1 + 2", {})
        self.judged(True, "k; fail 3", "fail 3", {"k": 1}, {"k": {"a": 1}})
        self.judged(True, "out r.a", "out r.a", {"r": {"a": 4}}, {"r": {}}, {})
        self.judged(True, "", "", {})

    def test_unlike(self):
        self.judged(False, "out 1", "out 2", {})
        self.judged(False, "out 1", "out 1; out 1", {})
        self.judged(False, "out 1; out 1", "out 1", {})
        self.judged(False, "out 1", "", {})
        self.judged(False, "fail 1", "fail 2", {})
        self.judged(False, "fail 0", "", {})
        self.judged(False, "", "fail 0", {})
        self.judged(False, "out 1; fail 1", "fail 1", {})
        self.judged(False, "k; fail 3", "fail 3", {"k": 1}, {})
        self.judged(False, "k; fail 3", "fail 3", {}, {"k": 1})
        self.judged(False, "out k", "out 1", {"k": 1}, {"k": 2})

    def test_steps(self):
        self.judged(True, "fn () {}()", "0", {})
        self.judged(False, "0", "fn () {}()", {})
        self.judged(True, "while (0) {}", "while (0) {}", {})
        self.judged(False, "while (0) {}", "while (0) {} while (0) {}", {})
        self.judged(True, "while (0) {} while (0) {}", "while (0) {}", {})

    def test_runs_that_are_long(self):
        self.judged(True, "while (1) {}", "out 1", {})
        self.judged(False, "out 1", "while (1) {}", {})
        self.judged(False, "while (k) {}", "out 1", {"k": 1}, {"k": 0})
        self.judged(True, "while (k) {}", "0", {"k": 1}, {"k": 0})
        self.judged(False, "0", "while (k) {}", {"k": 0}, {"k": 1})
        self.judged(True, "let i = 0; while (i < 1999) i = i + 1", "let i = 0; while (i < 1999) i = 1 + i", {})
        self.judged(True, "let i = 0; while (i < 2000) i = i + 1", "out 1", {})
        self.judged(False, "let i = 0; while (i < 1999) i = i + 1", "let i = 0; while (i < 2000) i = i + 1", {})

    def test_handling(self):
        one, other = read("k"), read("k + 0")
        many = [{"k": 1}, {"k": {"a": 1}}, {}]
        kept = repr(many)
        self.assertIs(runs_alike(one, other, many), False)
        self.assertIs(runs_alike(many=many[:1] + many[2:], other=other, one=one), True)
        self.assertEqual(repr(many), kept)

    def test_no_trees_go_ahead(self):
        tree = read("out 1")
        for call, more in ((runs_alike, ([],)), (runs_alike, ([{}],)), (alike, ())):
            for thing, path, why in ((None, (), "kind"), ([], (), "kind"), ((do(num(-1)),), (0, 1, 1), "number"), ((do(num(1)),) * 151, (), "great")):
                for one, other in ((thing, tree), (tree, thing), (thing, None), (thing, (("do",),))):
                    error = refusal(self, NoTree, call, one, other, *more)
                    self.assertEqual((error.path, error.why), (path, why))


def sides(one, other, path=()):
    """All paths at which both trees have something, with it."""
    yield path, one, other
    if isinstance(one, tuple) and isinstance(other, tuple):
        for at, (inner, outer) in enumerate(zip(one, other)):
            yield from sides(inner, outer, (*path, at))


def meanings(tree):
    """What the names that are used mean, by the paths at which they stand as signs of text."""
    told = {}
    for name, uses in [(place, uses) for _, place, uses in bindings(tree)] + outers(tree):
        for use in uses:
            told[use if isinstance(thing_at(tree, use), str) else (*use, 1)] = name
    return told


def alike_by_words(one, other):
    lets, other_lets = {place: x for x, place, _ in bindings(one)}, {place: x for x, place, _ in bindings(other)}
    mean, other_mean = meanings(one), meanings(other)
    found = []
    for path, here, there in sides(one, other):
        if isinstance(here, tuple) and isinstance(there, tuple):
            so = len(here) == len(there)
        elif isinstance(here, tuple) or isinstance(there, tuple):
            so = False
        elif path in lets and path in other_lets:
            so = True
        elif path in mean and path in other_mean:
            so = mean[path] == other_mean[path]
        else:
            so = here == there
        if not so:
            found.append(path)
    if found:
        return ("unlike", min(found))
    return ("alike", [at for at, place in enumerate(sorted(lets)) if lets[place] != other_lets[place]])


class Alike(unittest.TestCase):

    def alike(self, one, other, *numbers):
        for told in (alike(read(one), read(other)), alike(read(other), read(one))):
            self.assertEqual(told, ("alike", list(numbers)))

    def unlike(self, one, other, path):
        for told in (alike(read(one), read(other)), alike(read(other), read(one))):
            self.assertEqual(told, ("unlike", path), (one, other))

    def test_trees_that_are_one(self):
        self.alike("", "")
        for text in PROGRAMS:
            self.alike(text, text)

    def test_names_of_bindings(self):
        self.alike("let a = 1; out a", "let b = 1; out b", 0)
        self.alike("let a = 1, b = a; out b", "let b = 1, a = b; out a", 0, 1)
        self.alike("let a = 1, b = a; out b", "let a = 1, c = a; out c", 1)
        self.alike("fn (x, y) { x = y; let z = x }", "fn (y, x) { y = x; let z = y }", 0, 1)
        self.alike("try {} catch (e) { out e + k }", "try {} catch (f) { out f + k }", 0)
        self.alike("let a = 1; { let a = 2; out a } out a", "let a = 1; { let b = 2; out b } out a", 1)
        self.alike("let a = 1", "let b = 1", 0)
        self.alike("a = 2; let a = 1", "b = 2; let b = 1", 0)

    def test_names_that_mean_others(self):
        self.unlike("let a = 1; out a", "let b = 1; out a", (1, 1, 1))
        self.unlike("let a = 1, b = 2; out a", "let a = 1, b = 2; out b", (1, 1, 1))
        self.unlike("let a = 1; { let b = 2; out a }", "let a = 1; { let a = 2; out a }", (1, 1, 1, 1, 1))
        self.unlike("let a = 1, b = 1; a = 2", "let a = 1, b = 1; b = 2", (1, 1))
        self.unlike("fn (x, y) x", "fn (y, x) x", (0, 1, 2, 1, 1))
        self.unlike("let a = 1; try {} catch (b) { out a }", "let a = 1; try {} catch (a) { out a }", (1, 3, 0, 1, 1))

    def test_outer_names(self):
        self.alike("out k", "out k")
        self.unlike("out k", "out l", (0, 1, 1))
        self.unlike("k + l", "l + k", (0, 1, 2, 1))
        self.unlike("let a = 1; out k", "let k = 1; out k", (1, 1, 1))

    def test_lengths(self):
        self.unlike("", "out 1", ())
        self.unlike("out 1; out 2", "out 3", ())
        self.unlike("k(1)", "k(2, 3)", (0, 1, 2))
        self.unlike("let a = 1", "let a = 2, b = 3", (0, 1))
        self.unlike("fn (x) x", "fn (x, y) y", (0, 1, 1))
        self.unlike("{ out 1 }", "{}", (0, 1))
        self.unlike("[a: 1]", "[]", (0, 1, 1))
        self.unlike("out 1", "while (k) out 1", (0,))
        self.unlike("fn () { out 1; out 2; out 3 }", "fn () 1", (0, 1, 2))

    def test_a_tuple_and_none(self):
        self.unlike("if (k) out 1", "if (k) out 1; else out 2", (0, 3))
        self.unlike("fn () 1", "fn () { out 1; out 2 }", (0, 1, 2, 0))

    def test_words_numbers_signs_properties(self):
        self.unlike("out 1", "fail 2", (0, 0))
        self.unlike("-k", "!k", (0, 1, 0))
        self.unlike("k", "1", (0, 1, 0))
        self.unlike("out 1", "out 2", (0, 1, 1))
        self.unlike("k + 1", "k - 1", (0, 1, 1))
        self.unlike("k.a", "k.b", (0, 1, 2))
        self.unlike("k.a = 1", "k.b = 1", (0, 2))
        self.unlike("[a: 1]", "[b: 1]", (0, 1, 1, 0, 0))
        self.unlike("k && l", "k || l", (0, 1, 0))
        self.unlike("k ? l : m", "k + l", (0, 1, 0))

    def test_the_least_path(self):
        self.unlike("out 1; out 2", "out 3; out 4", (0, 1, 1))
        self.unlike("out k + 1; out 2", "out k + 1; fail 2", (1, 0))
        self.unlike("let a = 1; out a; out 2", "let b = 1; out k; out 3", (1, 1, 1))
        self.unlike("out x; let x = 1", "out x; let y = 1", (0, 1, 1))
        self.unlike("k(1 + 2, l)", "k(1 - 3, m)", (0, 1, 2, 0, 1))

    def test_by_the_words(self):
        rng = random.Random(2)
        trees = [read(text) for text in PROGRAMS] + turnable_trees(120) + [tree for tree in trees_at_random(60) if is_tree(tree)]
        found = {"alike": 0, "unlike": 0}
        for tree in trees:
            for other in (tree, leaner(tree), bare(tree), named(tree, fair(tree, "ab")), props_named(tree, [], props_least(tree, [], "xy")), rng.choice(trees),
                          changed(tree, rng), changed(tree, rng), changed(tree, rng)):
                if is_tree(other):
                    told = alike(tree, other)
                    self.assertEqual(told, alike_by_words(tree, other), (tight(tree), tight(other)))
                    self.assertEqual(alike(other, tree), told)
                    found[told[0]] += 1
        self.assertGreater(min(found.values()), 300)

    def test_again_and_by_name(self):
        one, other = read("let a = 1; out a"), read("let b = 1; out b")
        asked_again(self, alike, one, other)
        self.assertEqual(alike(other=other, one=one), ("alike", [0]))


def changed(tree, rng):
    """A tree with another name or number at some place at random."""
    paths = [path for path, here, _ in sides(tree, tree) if not isinstance(here, tuple) and here is not None]
    return put(tree, rng.choice(paths), rng) if paths else tree


def put(thing, path, rng):
    if path == ():
        return rng.choice(("a", "b", "c", "+", "-")) if isinstance(thing, str) else rng.choice((0, 1, 2))
    return (*thing[:path[0]], put(thing[path[0]], path[1:], rng), *thing[path[0] + 1:])


if __name__ == "__main__":
    unittest.main()
