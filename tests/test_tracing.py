"""[29]: traces, their steps, and whence each word of the short text comes."""

import random
import unittest

import other_turnings as by_words
from helper import asked_again, refusal
from leanscript.errors import NoCount, NoNaming, NoText, NoTree, NoTurning
from leanscript.goings import bare, without
from leanscript.maps import is_map
from leanscript.naming import fair, named
from leanscript.properties import properties, props_least, props_named
from leanscript.reach import unreached
from leanscript.reading import read
from leanscript.search import leaner, steps_judged
from leanscript.rooms import bindings
from leanscript.still import is_still, is_sure
from leanscript.tracing import Trace
from leanscript.trees import is_tree
from leanscript.turnings import turned
from leanscript.words import words
from leanscript.writing import plain, tight, tight_spots
from programs import PROGRAMS
from turnable import turnable_trees

LONG = """let total = 0; let i = 0;
while (!!(i < n)) { total = total + i; i = i + 1 }
if (0) { let q = 1 }
out (total)"""


def remarked(tree, marked):
    """A tree of the form of one the things in which know whence they come, each thing with what it has in its place."""
    if isinstance(tree, tuple):
        told = by_words.Thing(remarked(one, other) for one, other in zip(tree, marked))
    elif isinstance(tree, str):
        told = by_words.Word(tree)
    else:
        return tree
    told.came = getattr(marked, "came", None)
    return told


def map_by_words(marked, size):
    """The map of the shortest text, by what the things know."""
    tree = by_words.plain(marked)
    rows = tight_spots(tree)
    told = []
    for _, word, at in words(tight(tree)):
        around = [path for path, begin, end in rows if begin <= at and at + len(word) <= end]
        stretch = by_words.at(marked, max(around, key=len)).came if around else (0, size)
        told.append((at, at + len(word), *stretch))
    return told


def gone_marked(marked):
    """For each path of what can go the outcome."""
    tree = by_words.plain(marked)
    rows = by_words.gone_by_words(marked, bindings(tree), lambda path: is_still(tree, path))
    return {path: outcome for (path, _), outcome in rows.items() if len(tight(by_words.plain(outcome))) <= len(tight(tree))}


def turned_marked(marked):
    tree = by_words.plain(marked)
    rows = by_words.turned_by_words(marked, bindings(tree), lambda path: is_sure(tree, path))
    return {step: outcome for step, outcome in rows.items() if is_tree(by_words.plain(outcome))}


def bare_marked(marked):
    while True:
        pairs = unreached(by_words.plain(marked))
        rows = gone_marked(marked)
        if pairs:
            for pair in sorted(pairs, reverse=True):
                marked = by_words.exchanged(marked, [by_words.gone_pair(marked, pair)])
        elif rows:
            marked = rows[min(rows)]
        else:
            return marked


def spread(text, rng):
    """A text with blanks and line ends at random."""
    told = ""
    for _, word, _ in words(text):
        told += rng.choice(("", " ", "\n", "  ")) if not told or not told[-1].isalnum() or not word[0].isalnum() else " "
        told += word
    return told + rng.choice(("", " ", "\n"))


class Case(unittest.TestCase):

    def pairs(self, trace, text):
        """For each word of the short text the stretch of the first text from which it comes, as texts."""
        short = trace.text()
        self.assertIs(is_map(trace.map(), short, text), True)
        return [(short[begin:end], text[first:last]) for begin, end, first, last in trace.map()]

    def stands(self, trace, text, steps):
        """That a trace stands at a text, behind some steps."""
        self.assertEqual(trace.tree(), read(text))
        self.assertEqual(trace.text(), tight(read(text)))
        self.assertEqual(trace.steps(), steps)


class Steps(Case):

    def test_the_beginning(self):
        for text in ("", " ", "out 1", LONG, " if (a) b; else c "):
            trace = Trace(text)
            self.stands(trace, text, [])
            self.assertIs(is_map(trace.map(), trace.text(), text), True)
        self.assertEqual(Trace("").map(), [])

    def test_texts_that_are_refused(self):
        self.assertEqual(refusal(self, NoText, Trace, "out B").at, 4)
        self.assertEqual(refusal(self, NoText, Trace, "out 1 2").at, 6)
        error = refusal(self, NoTree, Trace, "out 1; return 2")
        self.assertEqual((error.path, error.why), ((1,), "return"))

    def test_turn(self):
        trace = Trace("out 1 + 2 + 3; {}")
        self.assertIsNone(trace.turn((0, 1, 2), "reckon"))
        self.stands(trace, "out 3 + 3; {}", [((0, 1, 2), "reckon")])
        trace.turn((1,), "gone")
        self.stands(trace, "out 3 + 3", [((0, 1, 2), "reckon"), ((1,), "gone")])
        trace.turn((0, 1), "reckon")
        self.stands(trace, "out 6", [((0, 1, 2), "reckon"), ((1,), "gone"), ((0, 1), "reckon")])
        self.assertIs(steps_judged(read("out 1 + 2 + 3; {}"), trace.steps(), trace.tree()), True)

    def test_turns_that_are_refused(self):
        text = "out 1 + 2; while (k) 1"
        trace = Trace(text)
        for path, word in (((0,), "reckon"), ((0, 1), "gone"), ((0, 1), "choose"), ((0, True), "reckon"), (None, "reckon"), ((0, 1), None), ((0, 1), []), ([0, 1], "reckon"),
                           ((1, 2), "gone"), ((1, 2), "still"), ((), "gone"), (None, "gone"), ((0, 1), "bare")):
            refusal(self, NoTurning, trace.turn, path, word)
            self.stands(trace, text, [])

    def test_rename(self):
        trace = Trace("let long = 1, other = k; out long")
        self.assertIsNone(trace.rename(["a", "b"]))
        self.stands(trace, "let a = 1, b = k; out a", [("rename", ("a", "b"))])
        trace.rename(["a", "b"])
        self.stands(trace, "let a = 1, b = k; out a", [("rename", ("a", "b"))] * 2)
        trace = Trace("out 1")
        trace.rename([])
        self.stands(trace, "out 1", [("rename", ())])

    def test_namings_that_are_refused(self):
        text = "let a = 1, b = k; out a"
        trace = Trace(text)
        for naming, one, other in ((["c", "c"], 0, 1), (["k", "a"], 0, "k"), (["a"], None, None), (("a", "b"), None, None), (None, None, None), (["a", "let"], None, None)):
            error = refusal(self, NoNaming, trace.rename, naming)
            self.assertEqual((error.one, error.other), (one, other))
            self.stands(trace, text, [])

    def test_props(self):
        trace = Trace("out [long: 1, other: 2].long + k.kept")
        self.assertIsNone(trace.props(["kept"], ["kept", "a", "b"]))
        self.stands(trace, "out [a: 1, b: 2].a + k.kept", [("props", ("kept",), ("kept", "a", "b"))])
        trace.props(("kept",), ["a", "b", "kept"])
        self.stands(trace, "out [a: 1, b: 2].a + k.kept", [("props", ("kept",), ("kept", "a", "b")), ("props", ("kept",), ("a", "b", "kept"))])
        trace = Trace("out 1")
        trace.props([], [])
        self.stands(trace, "out 1", [("props", (), ())])

    def test_property_namings_that_are_refused(self):
        text = "out [a: 1].b"
        trace = Trace(text)
        for keep, names, one, other in (([], ["a", "a"], None, None), ([], ("a", "b"), None, None), ([], ["a"], None, None), (["a"], ["b", "a"], 0, "b"),
                                        (("c",), ["a", "c"], 1, "c")):
            error = refusal(self, NoNaming, trace.props, keep, names)
            self.assertEqual((error.one, error.other), (one, other))
            self.stands(trace, text, [])

    def test_bare(self):
        text = "let x = 1, y = fn () x; 2; {} out 3"
        trace = Trace(text)
        self.assertIsNone(trace.bare())
        self.stands(trace, "out 3", [("bare",)])
        trace.bare()
        self.stands(trace, "out 3", [("bare",)] * 2)

    def test_lean(self):
        trace = Trace("let x = 1; out x + 2; {}")
        self.assertIsNone(trace.lean())
        self.stands(trace, "out 3", [((0, 1, 0), "carry"), ((0, 1), "reckon"), ((1,), "gone")])
        trace.lean()
        self.stands(trace, "out 3", [((0, 1, 0), "carry"), ((0, 1), "reckon"), ((1,), "gone")])
        trace = Trace("out k")
        trace.lean()
        self.stands(trace, "out k", [])

    def test_lean_as_leaner(self):
        for text in PROGRAMS + tuple(tight(tree) for tree in turnable_trees(100)):
            tree = read(text)
            trace = Trace(text)
            trace.lean()
            self.assertEqual(trace.tree(), leaner(tree))
            self.assertIs(steps_judged(tree, trace.steps(), trace.tree()), True)
            for path, word in trace.steps():
                other = without(tree, path) if word == "gone" else turned(tree, path, word)
                self.assertLess(len(tight(other)), len(tight(tree)))
                tree = other

    def test_back(self):
        trace = Trace("let x = 1; out [a: x].a; {}")
        refusal(self, NoCount, trace.back)
        texts, maps = [], []
        for step in (lambda: trace.turn((2,), "gone"), lambda: trace.rename(["y"]), lambda: trace.props([], ["b"]), trace.bare, trace.lean, trace.bare):
            texts.append(trace.text())
            maps.append(trace.map())
            step()
        self.assertEqual(len(trace.steps()), 6)
        while trace.steps():
            self.assertIsNone(trace.back())
            self.assertEqual(len(trace.steps()), len(texts) - 1)
            self.assertEqual((trace.text(), trace.map()), (texts.pop(), maps.pop()))
        refusal(self, NoCount, trace.back)
        self.stands(trace, "let x = 1; out [a: x].a; {}", [])
        trace.lean()
        many = len(trace.steps())
        self.assertGreater(many, 1)
        trace.back()
        self.assertEqual(len(trace.steps()), many - 1)

    def test_two_traces(self):
        one, other = Trace("out 1 + 2"), Trace("out 1 + 2")
        one.turn((0, 1), "reckon")
        self.stands(other, "out 1 + 2", [])
        self.stands(one, "out 3", [((0, 1), "reckon")])

    def test_what_is_told_is_the_askers_own(self):
        trace = Trace(LONG)
        trace.lean()
        trace.rename(["a", "b"])
        for call in (trace.tree, trace.text, trace.map, trace.steps):
            asked_again(self, call)
        naming, keep, names = ["c", "d"], ["x"], []
        trace.rename(naming)
        trace.props(keep, names)
        naming.append("e")
        keep.clear()
        names.append("f")
        self.assertEqual(trace.steps()[-2:], [("rename", ("c", "d")), ("props", ("x",), ())])

    def test_by_name(self):
        trace = Trace(text="let x = [a: 1 + 2]; out x.a")
        trace.turn(word="reckon", path=(0, 1, 0, 1, 1, 0, 1))
        trace.rename(naming=["y"])
        trace.props(names=["b"], keep=())
        self.assertEqual(trace.text(), "let y=[b:3];out y.b")


class Maps(Case):

    def comes(self, text, steps, told):
        """That behind some steps the words come from these, each "word<text" in a row."""
        trace = Trace(text)
        for step in steps:
            trace.turn(*step)
        self.assertEqual(self.pairs(trace, text), told)

    def test_the_beginning(self):
        self.comes("let a = ( 1 );\nout a .b;", [], [("let", "let a = ( 1 )"), ("a", "a"), ("=", "let a = ( 1 )"), ("1", "1"), (";", "let a = ( 1 );\nout a .b;"),
                                                    ("out", "out a .b"), ("a", "a"), (".", "a .b"), ("b", "b")])
        self.comes("if (a) b; else { c; d }", [], [("if", "if (a) b; else { c; d }"), ("(", "if (a) b; else { c; d }"), ("a", "a"), (")", "if (a) b; else { c; d }"),
                                                   ("b", "b"), (";", "if (a) b; else { c; d }"), ("else", "if (a) b; else { c; d }"), ("{", "{ c; d }"),
                                                   ("c", "c"), (";", "{ c; d }"), ("d", "d"), ("}", "{ c; d }")])
        told = "fn(x){x=[k:y];k.l=1e3}"
        inner = {"x": "x", "[": "[k: y]", "k": "k", ":": "[k: y]", "y": "y", "]": "[k: y]", ".": "k.l = 1e3", "l": "l", "1e3": "1e3"}
        text = "fn (x) { x = [k: y]; k.l = 1e3 }"
        rows = [(word, inner.get(word, text)) for _, word, _ in words(told)]
        rows[6], rows[16] = ("=", "x = [k: y]"), ("=", "k.l = 1e3")
        self.comes(text, [], rows)
        text = "try { } catch (z) { out z }"
        self.comes(text, [], [(word, {"z": "z", "out": "out z"}.get(word, text)) for _, word, _ in words("try{}catch(z){out z}")])

    def test_the_beginning_by_the_words(self):
        for text in PROGRAMS:
            self.comes(text, [], self.whole(text))

    def whole(self, text):
        """What the words of a text come from at first, by its tree with marks."""
        return [(tight(read(text))[begin:end], text[first:last]) for begin, end, first, last in map_by_words(by_words.marked(text), len(text))]

    def test_reckon(self):
        self.comes("out 1 + 2", [((0, 1), "reckon")], [("out", "out 1 + 2"), ("3", "1 + 2")])
        self.comes("out 1 - 2", [((0, 1), "reckon")], [("out", "out 1 - 2"), ("-", "1 - 2"), ("1", "1 - 2")])
        self.comes("out ! 2", [((0, 1), "reckon")], [("out", "out ! 2"), ("0", "! 2")])

    def test_choose(self):
        self.comes("out 0 && k", [((0, 1), "choose")], [("out", "out 0 && k"), ("0", "0")])
        self.comes("out 2 ? k : l", [((0, 1), "choose")], [("out", "out 2 ? k : l"), ("k", "k")])
        self.comes("if (1) out k", [((0,), "choose")], [("out", "out k"), ("k", "k")])
        self.comes("if (0) out k", [((0,), "choose")], [("{", "if (0) out k"), ("}", "if (0) out k")])
        self.comes("if (1) let x = 1", [((0,), "choose")], [("{", "if (1) let x = 1"), ("let", "let x = 1"), ("x", "x"), ("=", "let x = 1"), ("1", "1"),
                                                            ("}", "if (1) let x = 1")])

    def test_not(self):
        self.comes("out !(k < l)", [((0, 1), "other")], [("out", "out !(k < l)"), ("k", "k"), (">=", "!(k < l)"), ("l", "l")])
        self.comes("out !!!k", [((0, 1, 1), "double")], [("out", "out !!!k"), ("!", "!!!k"), ("k", "k")])
        self.comes("out !k ? 1 : 2", [((0, 1), "swap")], [("out", "out !k ? 1 : 2"), ("k", "k"), ("?", "!k ? 1 : 2"), ("2", "2"), (":", "!k ? 1 : 2"), ("1", "1")])
        self.comes("if (!k) {} else l", [((0,), "swap")], [("if", "if (!k) {} else l"), ("(", "if (!k) {} else l"), ("k", "k"), (")", "if (!k) {} else l"), ("l", "l"),
                                                           (";", "if (!k) {} else l"), ("else", "if (!k) {} else l"), ("{", "{}"), ("}", "{}")])

    def test_ifs(self):
        self.comes("if (k) l()", [((0,), "and")], [("k", "k"), ("&&", "if (k) l()"), ("l", "l"), ("(", "l()"), (")", "l()")])
        self.comes("if (!k) l", [((0,), "and")], [("k", "k"), ("||", "if (!k) l"), ("l", "l")])
        self.comes("if (k) out 1; else out 2", [((0,), "join")], [("out", "if (k) out 1; else out 2"), ("k", "k"), ("?", "if (k) out 1; else out 2"), ("1", "1"),
                                                                  (":", "if (k) out 1; else out 2"), ("2", "2")])
        self.comes("if (k) {}", [((0,), "test")], [("k", "k")])
        self.comes("if (k) l; else {}", [((0,), "less")], [("if", "if (k) l; else {}"), ("(", "if (k) l; else {}"), ("k", "k"), (")", "if (k) l; else {}"), ("l", "l")])

    def test_join_of_sets(self):
        text = "let x = 1; if (k) x = 2; else x = 3"
        trace = Trace(text)
        trace.turn((1,), "join")
        self.assertEqual(trace.map()[5], (8, 9, 18, 19))
        self.assertEqual(self.pairs(trace, text)[5:], [("x", "x"), ("=", "if (k) x = 2; else x = 3"), ("k", "k"), ("?", "if (k) x = 2; else x = 3"), ("2", "2"),
                                                       (":", "if (k) x = 2; else x = 3"), ("3", "3")])

    def test_tail_and_lets_come_from_both(self):
        self.comes("fn (x) { if (x) return 1; return 2 }", [((0, 1, 2, 0), "tail")],
                   [("fn", "fn (x) { if (x) return 1; return 2 }"), ("(", "fn (x) { if (x) return 1; return 2 }"), ("x", "x"),
                    (")", "fn (x) { if (x) return 1; return 2 }"), ("{", "fn (x) { if (x) return 1; return 2 }"), ("return", "if (x) return 1; return 2"), ("x", "x"), ("?", "if (x) return 1; return 2"), ("1", "1"), (":", "if (x) return 1; return 2"), ("2", "2"),
                    ("}", "fn (x) { if (x) return 1; return 2 }")])
        self.comes("out 0; let x = 1 ; let y = k", [((1,), "lets")],
                   [("out", "out 0"), ("0", "0"), (";", "out 0; let x = 1 ; let y = k"), ("let", "let x = 1 ; let y = k"), ("x", "x"), ("=", "let x = 1 ; let y = k"),
                    ("1", "1"), (",", "let x = 1 ; let y = k"), ("y", "y"), ("=", "let x = 1 ; let y = k"), ("k", "k")])

    def test_fns(self):
        self.comes("k(fn (x) { return x })", [((0, 1, 2, 0), "give")], [("k", "k"), ("(", "k(fn (x) { return x })"), ("fn", "fn (x) { return x }"), ("(", "fn (x) { return x }"),
                                                                        ("x", "x"), (")", "fn (x) { return x }"), ("x", "x"), (")", "k(fn (x) { return x })")])
        self.comes("fn () { k; return 0 }", [((0, 1, 2, 1), "last")], [(word, "fn () { k; return 0 }") for word in ("fn", "(", ")", "{")] + [("k", "k")]
                   + [("}", "fn () { k; return 0 }")])

    def test_blocks(self):
        self.comes("if (k) { l }", [((0, 2), "open")], [("if", "if (k) { l }"), ("(", "if (k) { l }"), ("k", "k"), (")", "if (k) { l }"), ("l", "l")])
        self.comes("k; { l; m } n", [((1,), "open")], [("k", "k"), (";", "k; { l; m } n"), ("l", "l"), (";", "k; { l; m } n"), ("m", "m"), (";", "k; { l; m } n"), ("n", "n")])

    def test_carry(self):
        self.comes("let long = 1; out long + k", [((0, 1, 0), "carry")], [("out", "out long + k"), ("1", "long"), ("+", "long + k"), ("k", "k")])
        self.comes("let x = 1, y = x; out y", [((0, 1, 0), "carry")], [("let", "let x = 1, y = x"), ("y", "y"), ("=", "let x = 1, y = x"), ("1", "x"),
                                                                       (";", "let x = 1, y = x; out y"), ("out", "out y"), ("y", "y")])
        text = "if (k) let x = 1"
        self.comes(text, [((0, 2, 1, 0), "carry")], [("if", text), ("(", text), ("k", "k"), (")", text), ("{", "let x = 1"), ("}", "let x = 1")])

    def test_goings(self):
        text = "while (k) 12"
        self.comes(text, [((0, 2), "gone")], [("while", text), ("(", text), ("k", "k"), (")", text), ("{", "12"), ("}", "12")])
        text = "while (k) let x = 1"
        self.comes(text, [((0, 2, 1, 0), "gone")], [("while", text), ("(", text), ("k", "k"), (")", text), ("{", "let x = 1"), ("}", "let x = 1")])
        self.comes("k; {} l", [((1,), "gone")], [("k", "k"), (";", "k; {} l"), ("l", "l")])
        text = "let a = 1, b = k"
        self.comes(text, [((0, 1, 0), "gone")], [("let", text), ("b", "b"), ("=", text), ("k", "k")])

    def test_steps_behind_one_another(self):
        text = "out 0 + (1 + 2 * 3)"
        self.comes(text, [((0, 1, 3, 3), "reckon")], [("out", text), ("0", "0"), ("+", "0 + (1 + 2 * 3)"), ("(", "0 + (1 + 2 * 3)"), ("1", "1"), ("+", "1 + 2 * 3"), ("6", "2 * 3"),
                                                      (")", "0 + (1 + 2 * 3)")])
        self.comes(text, [((0, 1, 3, 3), "reckon"), ((0, 1, 3), "reckon")], [("out", text), ("0", "0"), ("+", "0 + (1 + 2 * 3)"), ("7", "1 + 2 * 3")])
        text = "let x = 1; let y = 2; let z = k; out y"
        both = "let x = 1; let y = 2; let z = k"
        self.comes(text, [((0,), "lets"), ((0,), "lets"), ((0, 1, 1), "carry"), ((0, 1, 0), "gone")],
                   [("let", both), ("z", "z"), ("=", both), ("k", "k"), (";", text), ("out", "out y"), ("2", "y")])

    def test_rename_and_props(self):
        text = "let long = [key: 1]; out long.key + k.keep"
        trace = Trace(text)
        ahead = trace.map()
        trace.rename(["k" * 12])
        trace.props(["keep"], ["keep", "z"])
        self.assertEqual([row[2:] for row in trace.map()], [row[2:] for row in ahead])
        pairs = self.pairs(trace, text)
        self.assertIn(("k" * 12, "long"), pairs)
        self.assertIn(("z", "key"), pairs)

    def test_bare(self):
        text = "let x = 1, y = k; if (k) let f = fn () f; else out y"
        trace = Trace(text)
        trace.bare()
        self.assertEqual(trace.text(), "let y=k;if(k){}else out y")
        self.assertEqual([pair for pair in self.pairs(trace, text) if pair[0] in "{}"], [("{", "let f = fn () f"), ("}", "let f = fn () f")])

    def test_by_the_words(self):
        """Steps at random, held against a tree the things in which know whence they come."""
        tried = 0
        for seed, text in enumerate(PROGRAMS + tuple(tight(tree) for tree in turnable_trees(250)) + tuple(plain(tree) for tree in turnable_trees(60, first=3000))):
            rng = random.Random(seed)
            text = spread(text, rng)
            trace, marked = Trace(text), by_words.marked(text)
            states = []
            for _ in range(8):
                self.assertEqual(trace.tree(), by_words.plain(marked))
                self.assertEqual(trace.map(), map_by_words(marked, len(text)), (text, trace.steps()))
                self.assertIs(is_map(trace.map(), trace.text(), text), True)
                kind = rng.choice(("turn", "turn", "turn", "turn", "gone", "gone", "bare", "rename", "props", "back"))
                ahead, many = marked, len(trace.steps())
                if kind == "turn" and turned_marked(marked):
                    rows = turned_marked(marked)
                    step = rng.choice(sorted(rows))
                    trace.turn(*step)
                    marked = rows[step]
                elif kind == "gone" and gone_marked(marked):
                    rows = gone_marked(marked)
                    path = rng.choice(sorted(rows))
                    trace.turn(path, "gone")
                    marked = rows[path]
                elif kind == "bare":
                    trace.bare()
                    marked = bare_marked(marked)
                    self.assertEqual(trace.tree(), bare(by_words.plain(ahead)))
                elif kind == "rename":
                    naming = fair(trace.tree(), "".join(rng.sample("abcdxyz", 4)))
                    marked = remarked(named(trace.tree(), naming), marked)
                    trace.rename(naming)
                elif kind == "props":
                    keep = [k for k, _ in properties(trace.tree()) if rng.random() < 0.3]
                    names = props_least(trace.tree(), keep, "".join(rng.sample("abcdxyz", 3)))
                    marked = remarked(props_named(trace.tree(), keep, names), marked)
                    trace.props(keep, names)
                elif kind == "back" and states:
                    trace.back()
                    marked = states.pop()
                    continue
                if len(trace.steps()) > many:
                    states.append(ahead)
                    tried += 1
            self.assertEqual(len(trace.steps()), len(states))
        self.assertGreater(tried, 1000)


if __name__ == "__main__":
    unittest.main()
