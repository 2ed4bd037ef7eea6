"""[26]: turnings, each of their words at each place at which it may be made, and at others."""

import unittest

import other_turnings as by_words
from helper import asked_again, do, live_trees, name, nested, num, refusal, thing_at, trees_at_random
from leanscript.errors import NoTree, NoTurning
from leanscript.reading import read, spots
from leanscript.rooms import bindings
from leanscript.still import is_sure
from leanscript.teller import run
from leanscript.trees import is_tree, must_tree, parts
from leanscript.turnings import turned, turnings
from leanscript.writing import tight
from programs import INS, PROGRAMS
from turnable import turnable_trees

TREES = [read(text) for text in PROGRAMS] + live_trees(20) + [tree for tree in trees_at_random(60) if is_tree(tree)] + turnable_trees(400)
NO_THINGS = (None, True, 0, "", "ab", [], [0], {}, (True,), (0, True), (-1,), (None,), ("0",), ((0,),), ([],), (10 ** 20,))


def turnings_by_words(tree):
    """For each (path, word) the outcome, but for those that are no trees."""
    rows = by_words.turned_by_words(by_words.marked(tight(tree)), bindings(tree), lambda path: is_sure(tree, path))
    told = {step: by_words.plain(outcome) for step, outcome in rows.items()}
    return {step: told[step] for step in told if is_tree(told[step])}


def texts_of(text):
    """By paths of parts and of lets' pairs their texts."""
    rows = {path: (begin, end) for path, begin, end in spots(text)}
    told = {path: text[rows[path][0]:rows[path][1]] for path in parts(read(text))}
    for path in list(told):
        if told[path].startswith("let "):
            at = 0
            while (*path, 1, at, 0) in rows:
                told[(*path, 1, at)] = text[rows[(*path, 1, at, 0)][0]:rows[(*path, 1, at, 1)][1]]
                at += 1
    return told


class Case(unittest.TestCase):

    def turns(self, word, text, part, outcome):
        """That a turning may be made just at the part with a text, and the outcome."""
        tree = read(text)
        texts = texts_of(text)
        paths = [path for path, other in turnings(tree) if other == word and texts[path] == part]
        self.assertEqual(len(paths), 1, text)
        told = turned(tree, paths[0], word)
        must_tree(told)
        self.assertEqual(tight(told), tight(read(outcome)), text)
        self.assertEqual(told, read(outcome))

    def stays(self, word, *texts):
        """That a turning may be made nowhere in some texts."""
        for text in texts:
            tree = read(text)
            self.assertNotIn(word, [other for _, other in turnings(tree)], text)
            for path in texts_of(text):
                refusal(self, NoTurning, turned, tree, path, word)


class Expressions(Case):

    def test_reckon_two(self):
        for told, outcome in (("1 + 2", "3"), ("1 - 2", "-1"), ("2 * 3", "6"), ("7 / 2", "3"), ("7 ~ 2", "1"), ("1 < 2", "1"), ("1 > 2", "0"),
                              ("2 <= 2", "1"), ("1 >= 2", "0"), ("1 == 1", "1"), ("1 != 1", "0"), ("1 - 1", "0"), ("0 * 5", "0"), ("0 / 5", "0")):
            self.turns("reckon", "out " + told, told, "out " + outcome)

    def test_reckon_below_0(self):
        for told, outcome in (("-1 + 2", "1"), ("1 + -2", "-1"), ("-2 * -3", "6"), ("-7 / 2", "-4"), ("7 / -2", "-4"), ("-7 / -2", "3"), ("-7 ~ 2", "1"),
                              ("7 ~ -2", "-1"), ("-7 ~ -2", "-1"), ("-0 + 0", "0"), ("-0 == 0", "1"), ("0 - -0", "0"), ("-0 / 3", "0"), ("-1 < -2", "0"),
                              ("-6 / 3", "-2"), ("-6 ~ 3", "0"), ("-1 * 0", "0")):
            self.turns("reckon", "out " + told, told, "out " + outcome)

    def test_reckon_bounds(self):
        top = "999999999999999999"
        for told, outcome in ((top + " + 0", top), (top + " - 1", "999999999999999998"), ("1e9 * 999999999", "999999999000000000"),
                              ("0 - " + top, "-" + top), ("-" + top + " - 0", "-" + top), (top + " == " + top, "1"), ("-" + top + " * 1", "-" + top)):
            self.turns("reckon", "out " + told, told, "out " + outcome)
        self.stays("reckon", "out " + top + " + 1", "out -" + top + " - 1", "out 1e9 * 1e9", "out -1e9 * 1e9", "out " + top + " * " + top,
                   "out -" + top + " * " + top, "out 500000000000000000 * 2", "out 2 * -500000000000000000")

    def test_reckon_what_fails_stays(self):
        self.stays("reckon", "1 / 0", "1 ~ 0", "0 / 0", "1 / -0", "-1 ~ -0")

    def test_reckon_not(self):
        self.turns("reckon", "out !0", "!0", "out 1")
        self.turns("reckon", "out !7", "!7", "out 0")
        self.turns("reckon", "out !!7", "!7", "out !0")
        self.stays("reckon", "out !-1", "out !-0", "out !k", "out ![]", "out !(fn () 1)")

    def test_reckon_others(self):
        self.stays("reckon", "out -1", "out -0", "out k + 1", "out 1 + k", "out --1 + 1", "out 1 + --1", "out -k + 1", "1 && 2", "1 || 2", "1 == []",
                   "out k + k", "out 1 - -k", "let num = 1; out num + 1")
        self.turns("reckon", "out 1 + 2 + 3", "1 + 2", "out 3 + 3")
        self.turns("reckon", "out k * (1 + 2)", "1 + 2", "out k * 3")
        self.turns("reckon", "out k - (1 - 2)", "1 - 2", "out k - -1")
        self.turns("reckon", "out fn () { return [a: 1 + 2] }().a", "1 + 2", "out fn () { return [a: 3] }().a")

    def test_choose_and_or(self):
        self.turns("choose", "out 0 && k()", "0 && k()", "out 0")
        self.turns("choose", "out 5 && k()", "5 && k()", "out k()")
        self.turns("choose", "out 0 || k()", "0 || k()", "out k()")
        self.turns("choose", "out 5 || k()", "5 || k()", "out 5")
        self.turns("choose", "out 5 || 0 && k", "5 || 0 && k", "out 5")
        self.turns("choose", "out 5 || 0 && k", "0 && k", "out 5 || 0")
        self.stays("choose", "k && 1", "k || 0", "-1 && k", "-0 || k", "!1 && k", "[] && k")

    def test_choose_pick(self):
        self.turns("choose", "out 0 ? k : l", "0 ? k : l", "out l")
        self.turns("choose", "out 7 ? k : l", "7 ? k : l", "out k")
        self.stays("choose", "k ? 1 : 0", "-1 ? k : l", "[] ? k : l")

    def test_choose_if(self):
        self.turns("choose", "if (1) out k; else out l", "if (1) out k; else out l", "out k")
        self.turns("choose", "if (0) out k; else out l", "if (0) out k; else out l", "out l")
        self.turns("choose", "if (1) out k", "if (1) out k", "out k")
        self.turns("choose", "if (3) { out k; let x = 1 } else out l", "if (3) { out k; let x = 1 } else out l", "{ out k; let x = 1 }")
        self.turns("choose", "out 1; if (0) out k; out 2", "if (0) out k", "out 1; {} out 2")
        self.turns("choose", "while (k) if (0) out l", "if (0) out l", "while (k) {}")
        self.turns("choose", "if (k) if (0) out l", "if (0) out l", "if (k) {}")
        self.stays("choose", "if (k) out 1", "while (0) out k", "while (1) out k", "if (-1) out k", "if ([]) out 1")

    def test_choose_a_let(self):
        self.turns("choose", "if (1) let x = 1", "if (1) let x = 1", "{ let x = 1 }")
        self.turns("choose", "if (0) out 1; else let x = k, y = 2", "if (0) out 1; else let x = k, y = 2", "{ let x = k, y = 2 }")
        self.turns("choose", "let x = 1; if (1) let x = 2; out x", "if (1) let x = 2", "let x = 1; { let x = 2 } out x")
        self.turns("choose", "while (k) if (1) let x = 1", "if (1) let x = 1", "while (k) { let x = 1 }")
        self.turns("choose", "if (k) out 1; else if (0) {} else let x = 1", "if (0) {} else let x = 1", "if (k) out 1; else { let x = 1 }")

    def test_choose_ahead_of_an_else(self):
        text = "if (k) if (1) if (l) out 1; else {} else out 2; else out 3"
        self.turns("choose", text, "if (1) if (l) out 1; else {} else out 2", "if (k) if (l) out 1; else {} else out 3")
        text = "if (k) if (0) out 1; else { if (l) out 2 } else out 3"
        self.turns("choose", text, "if (0) out 1; else { if (l) out 2 }", "if (k) { if (l) out 2 } else out 3")

    def test_other(self):
        for sign, contrary in (("<", ">="), (">", "<="), ("<=", ">"), (">=", "<"), ("==", "!="), ("!=", "==")):
            text = "!(k " + sign + " l)"
            self.turns("other", "out " + text, text, "out k " + contrary + " l")
        self.turns("other", "if (!(k() < [])) out 1", "!(k() < [])", "if (k() >= []) out 1")
        self.turns("other", "out !!(k == l)", "!(k == l)", "out !(k != l)")
        self.stays("other", "!(k + l)", "!(k - l)", "!(k * l)", "!(k / l)", "!(k ~ l)", "!(k && l)", "-(k < l)", "!k", "k < l", "!(!k == l ? 1 : 0)")

    def test_double_at_test_places(self):
        self.turns("double", "if (!!k) out 1", "!!k", "if (k) out 1")
        self.turns("double", "if (!!k) out 1; else out 2", "!!k", "if (k) out 1; else out 2")
        self.turns("double", "while (!!k) out 1", "!!k", "while (k) out 1")
        self.turns("double", "out !!k ? 1 : 2", "!!k", "out k ? 1 : 2")
        self.turns("double", "out !!!k", "!!k", "out !k")
        self.turns("double", "if (!!k && l) out 1", "!!k", "if (k && l) out 1")
        self.turns("double", "if (l && !!k) out 1", "!!k", "if (l && k) out 1")
        self.turns("double", "while (!!k || l) out 1", "!!k", "while (k || l) out 1")
        self.turns("double", "while (l || !!k) out 1", "!!k", "while (l || k) out 1")
        self.turns("double", "out (l ? !!k : m) ? 1 : 2", "!!k", "out (l ? k : m) ? 1 : 2")
        self.turns("double", "out (l ? m : !!k) ? 1 : 2", "!!k", "out (l ? m : k) ? 1 : 2")
        self.turns("double", "out !(l && (m || !!k))", "!!k", "out !(l && (m || k))")
        self.turns("double", "if (k) { if (l ? m : n && !!k()) out 1 }", "!!k()", "if (k) { if (l ? m : n && k()) out 1 }")
        self.turns("double", "out (!!k ? l : m) + 1", "!!k", "out (k ? l : m) + 1")
        self.turns("double", "if (!!!k) out 1", "!!!k", "if (!k) out 1")
        self.turns("double", "if (!!!k) out 1", "!!k", "if (!k) out 1")

    def test_double_at_others(self):
        self.stays("double", "!!k", "out !!k", "out !!k + 1", "a(!!k)", "if (!!k == 1) out 1", "if (-!!k) out 1", "k ? !!l : !!m",
                   "!!k && !!l", "!!k || l", "if (k(!!l)) out 1", "if ([a: !!l]) out 1", "if (fn () !!l) out 1", "if ((!!k).a) out 1", "if (!k) out 1",
                   "if (!-!k) out 1", "let x = !!k", "x = !!k; let x = 1", "(k ? !!l : m) + 1", "if ((k && !!l) < 1) out 1", "fail !!k",
                   "fn () { return !!k }()", "k.a = !!l", "fn () !!k")

    def test_swap_pick(self):
        self.turns("swap", "out !k ? 1 : 2", "!k ? 1 : 2", "out k ? 2 : 1")
        self.turns("swap", "out !!k ? 1 : 2", "!!k ? 1 : 2", "out !k ? 2 : 1")
        self.turns("swap", "out !(k < 1) ? l : m ? n : o", "!(k < 1) ? l : m ? n : o", "out k < 1 ? (m ? n : o) : l")
        self.stays("swap", "k ? 1 : 2", "-k ? 1 : 2", "!k && l", "(!k) + 1 ? 1 : 2")

    def test_give(self):
        self.turns("give", "k(fn () { return 1 })", "fn () { return 1 }", "k(fn () 1)")
        self.turns("give", "k(fn (x, y) { return x + y })", "fn (x, y) { return x + y }", "k(fn (x, y) x + y)")
        self.turns("give", "k(fn (x) { return fn (y) x }(1))", "fn (x) { return fn (y) x }", "k((fn (x) fn (y) x)(1))")
        self.stays("give", "fn () 1", "fn () {}", "fn () { out 1 }", "fn () { out 1; return 2 }", "fn () { return 1; return 2 }", "fn () { { return 1 } }",
                   "fn () { fail 1 }", "fn (x) { if (x) return 1 }")


class Statements(Case):

    def test_swap_if(self):
        self.turns("swap", "if (!k) out 1; else out 2", "if (!k) out 1; else out 2", "if (k) out 2; else out 1")
        self.turns("swap", "if (!k) let x = 1; else {}", "if (!k) let x = 1; else {}", "if (k) {} else let x = 1")
        self.turns("swap", "if (!k) out 1; else { if (l) out 2 }", "if (!k) out 1; else { if (l) out 2 }", "if (k) { if (l) out 2 } else out 1")
        self.turns("swap", "if (!k) out 1; else if (l) out 2; else out 3", "if (!k) out 1; else if (l) out 2; else out 3",
                   "if (k) if (l) out 2; else out 3; else out 1")
        self.stays("swap", "if (!k) out 1", "if (k) out 1; else out 2", "while (!k) out 1", "if (-!k) out 1; else out 2")

    def test_swap_what_would_take_an_else(self):
        self.stays("swap", "if (!k) out 1; else if (l) out 2", "if (!k) out 1; else while (l) if (m) out 2",
                   "if (!k) out 1; else if (l) out 2; else if (m) out 3")

    def test_and(self):
        self.turns("and", "if (k) l()", "if (k) l()", "k && l()")
        self.turns("and", "if (!k) l()", "if (!k) l()", "k || l()")
        self.turns("and", "if (!!k) l()", "if (!!k) l()", "!k || l()")
        self.turns("and", "out 1; while (m) if (k || l) m ? n : o", "if (k || l) m ? n : o", "out 1; while (m) (k || l) && (m ? n : o)")
        self.stays("and", "if (k) l(); else m()", "if (k) out 1", "if (k) { l() }", "while (k) l()", "if (k) let x = 1", "if (k) k.a = 1", "k && l")

    def test_join(self):
        for word in ("", "out ", "fail "):
            text = "if (k) " + word + "1; else " + word + "l"
            self.turns("join", text, text, word + "k ? 1 : l")
        self.turns("join", "k(fn (x) { if (x) return 1; else return 2 })", "if (x) return 1; else return 2", "k(fn (x) { return x ? 1 : 2 })")
        self.turns("join", "let x = 1; if (k) x = 2; else x = 3; out x", "if (k) x = 2; else x = 3", "let x = 1; x = k ? 2 : 3; out x")
        self.turns("join", "while (!k) if (!k) out l ? m : n; else out fn () 1", "if (!k) out l ? m : n; else out fn () 1",
                   "while (!k) out !k ? l ? m : n : fn () 1")
        self.stays("join", "if (k) out 1", "if (k) out 1; else fail 1", "if (k) 1; else out 1", "let x = 1, y = 1; if (k) x = 1; else y = 1",
                   "if (k) r.a = 1; else r.a = 2", "if (k) let x = 1; else let x = 2", "if (k) {} else {}", "if (k) { out 1 } else { out 2 }",
                   "if (k) while (l) out 1; else while (l) out 2", "if (k) out 1; else { out 2 }", "let x = 1; if (k) x = 1; else out 2",
                   "if (k) try {} catch (x) {} else try {} catch (x) {}")

    def test_tail(self):
        self.turns("tail", "k(fn (x) { if (x) return 1; return 2 })", "if (x) return 1", "k(fn (x) { return x ? 1 : 2 })")
        self.turns("tail", "k(fn (x) { out 0; { if (!x) return 1; return 2; out 3 } out 4 })", "if (!x) return 1",
                   "k(fn (x) { out 0; { return !x ? 1 : 2; out 3 } out 4 })")
        self.turns("tail", "k(fn (x) { try { if (x) return 1; return 2 } catch (y) {} })", "if (x) return 1",
                   "k(fn (x) { try { return x ? 1 : 2 } catch (y) {} })")
        self.turns("tail", "k(fn (x) { if (x) return 0; if (k) return 1; return 2 })", "if (k) return 1",
                   "k(fn (x) { if (x) return 0; return k ? 1 : 2 })")
        self.stays("tail", "k(fn (x) { if (x) return 1 })", "k(fn (x) { if (x) return 1; out 1; return 2 })", "k(fn (x) { if (x) return 1; else return 2; return 3 })",
                   "k(fn (x) { if (x) fail 1; return 2 })", "k(fn (x) { if (x) return 1; fail 2 })", "k(fn (x) { if (x) { return 1 } return 2 })",
                   "k(fn (x) { return 1; if (x) return 2 })", "k(fn (x) { if (x) return 1; { return 2 } })", "k(fn (x) { while (x) if (x) return 1; return 2 })",
                   "k(fn (x) { if (x) fail 1; fail 2 })", "if (k) out 1; out 2", "k(fn (x) { { if (x) return 1 } return 2 })",
                   "k(fn (x) { if (k) if (x) return 1; return 2 })")

    def test_lets(self):
        self.turns("lets", "let x = 1; let y = x", "let x = 1", "let x = 1, y = x")
        self.turns("lets", "out 1; { let x = 1, y = 2; let z = 3, w = 4; out 5 }", "let x = 1, y = 2", "out 1; { let x = 1, y = 2, z = 3, w = 4; out 5 }")
        self.turns("lets", "let x = k; let y = l; let z = m", "let x = k", "let x = k, y = l; let z = m")
        self.turns("lets", "let x = k; let y = l; let z = m", "let y = l", "let x = k; let y = l, z = m")
        self.turns("lets", "try { let x = 1; let y = 2 } catch (z) {}", "let x = 1", "try { let x = 1, y = 2 } catch (z) {}")
        self.turns("lets", "k(fn () { let x = 1; let y = 2 })", "let x = 1", "k(fn () { let x = 1, y = 2 })")
        self.stays("lets", "let x = 1, y = 2", "let x = 1; out x; let y = 2", "let x = 1; { let y = 2 }", "if (k) let x = 1; let y = 2", "if (k) let x = 1; else let y = 2",
                   "let x = 1; if (k) let y = 1", "while (k) let x = 1; let y = 2", "{ let x = 1 } let y = 2", "let x = 1; {} let y = 2")

    def test_open_where_a_statement_stands(self):
        self.turns("open", "if (k) { out 1 }", "{ out 1 }", "if (k) out 1")
        self.turns("open", "if (k) out 1; else { out 2 }", "{ out 2 }", "if (k) out 1; else out 2")
        self.turns("open", "while (k) { out 1 }", "{ out 1 }", "while (k) out 1")
        self.turns("open", "if (k) { { let x = 1 } }", "{ { let x = 1 } }", "if (k) { let x = 1 }")
        self.turns("open", "if (k) { while (l) out 1 } else out 2", "{ while (l) out 1 }", "if (k) while (l) out 1; else out 2")
        self.stays("open", "if (k) {}", "while (k) {}", "if (k) out 1; else {}", "if (k) { let x = 1 }", "while (k) { let x = 1 }", "if (k) { out 1; out 2 }",
                   "while (k) { out 1; out 2 }", "if (k) { let x = 1; out x }")

    def test_open_what_would_take_an_else(self):
        self.stays("open", "if (k) { if (l) out 1 } else out 2", "if (k) { while (l) if (m) out 1 } else out 2",
                   "if (k) { if (l) out 1; else if (m) out 2 } else out 3", "if (k) while (l) { if (m) out 1 } else out 2")
        self.turns("open", "if (k) { if (l) out 1 }", "{ if (l) out 1 }", "if (k) if (l) out 1")
        self.turns("open", "if (k) out 1; else { if (l) out 2 }", "{ if (l) out 2 }", "if (k) out 1; else if (l) out 2")

    def test_open_in_a_list(self):
        self.turns("open", "out 1; { out 2; out 3 } out 4", "{ out 2; out 3 }", "out 1; out 2; out 3; out 4")
        self.turns("open", "out 1; {} out 2", "{}", "out 1; out 2")
        self.turns("open", "{}", "{}", "")
        self.turns("open", "{ { let x = 1 } if (k) let y = 1 }", "{ { let x = 1 } if (k) let y = 1 }", "{ let x = 1 } if (k) let y = 1")
        self.turns("open", "try { { out 1 } } catch (x) {}", "{ out 1 }", "try { out 1 } catch (x) {}")
        self.turns("open", "try {} catch (x) { { out x } }", "{ out x }", "try {} catch (x) { out x }")
        self.turns("open", "k(fn (x) { { return x } })", "{ return x }", "k(fn (x) { return x })")
        self.turns("open", "if (k) { { out 1; out 2 } out 3 }", "{ out 1; out 2 }", "if (k) { out 1; out 2; out 3 }")
        self.stays("open", "{ let x = 1 }", "out 1; { out x; let x = 1; out 2 }", "{ let x = 1; { let y = 1 } }", "try {} catch (x) {}", "k(fn () {})")

    def test_last(self):
        self.turns("last", "k(fn () { return 0 })", "return 0", "k(fn () {})")
        self.turns("last", "k(fn () { out 1; return 0 })", "return 0", "k(fn () { out 1 })")
        self.turns("last", "k(fn () { return 1; return 0 })", "return 0", "k(fn () { return 1 })")
        self.stays("last", "k(fn () { return 1 })", "k(fn () { return -0 })", "k(fn () { return 0; out 1 })", "k(fn () { { return 0 } })",
                   "k(fn () { if (k) return 0 })", "k(fn () { try { return 0 } catch (x) {} })", "k(fn () { try {} catch (x) { return 0 } })", "k(fn () 0)",
                   "k(fn () { out 0 })", "k(fn () { fail 0 })", "k(fn () { while (k) return 0 })", "0; out 0", "k(fn () { out 1; { return 0 } })")

    def test_test(self):
        self.turns("test", "if (k()) {}", "if (k()) {}", "k()")
        self.turns("test", "out 1; while (k) if (!l) {}", "if (!l) {}", "out 1; while (k) !l")
        self.stays("test", "if (k) {} else {}", "if (k) {} else out 1", "while (k) {}", "if (k) { {} }", "if (k) out 1", "{}")

    def test_less(self):
        self.turns("less", "if (k) out 1; else {}", "if (k) out 1; else {}", "if (k) out 1")
        self.turns("less", "if (k) {} else {}", "if (k) {} else {}", "if (k) {}")
        self.turns("less", "if (k) let x = 1; else {}", "if (k) let x = 1; else {}", "if (k) let x = 1")
        self.turns("less", "if (k) { if (l) out 1 } else {}", "if (k) { if (l) out 1 } else {}", "if (k) { if (l) out 1 }")
        self.turns("less", "if (k) { if (l) out 1; else {} } else out 2", "if (l) out 1; else {}", "if (k) { if (l) out 1 } else out 2")
        self.turns("less", "if (k) out 1; else if (l) out 2; else {}", "if (l) out 2; else {}", "if (k) out 1; else if (l) out 2")
        self.stays("less", "if (k) out 1", "if (k) {} else out 1", "if (k) out 1; else { {} }", "while (k) {}", "if (k) {}",
                   "if (k) if (l) out 1; else {} else out 2", "if (k) while (m) if (l) out 1; else {} else out 2")

    def test_carry(self):
        self.turns("carry", "let x = 1; out x", "x = 1", "out 1")
        self.turns("carry", "let x = 1, y = x; out x + y + x", "x = 1", "let y = 1; out 1 + y + 1")
        self.turns("carry", "let x = 1; k(fn () x); { let y = x; { out x } }", "x = 1", "k(fn () 1); { let y = 1; { out 1 } }")
        self.turns("carry", "let x = 1; { let x = 2; out x } out x", "x = 1", "{ let x = 2; out x } out 1")
        self.turns("carry", "let x = 1; { let x = 2; out x } out x", "x = 2", "let x = 1; { out 2 } out x")
        self.turns("carry", "let f = k, x = 12, g = fn () x; out g()", "x = 12", "let f = k, g = fn () 12; out g()")
        self.turns("carry", "out x; { let x = 3; out x }", "x = 3", "out x; { out 3 }")
        self.turns("carry", "let x = 1; while (x < k) out x", "x = 1", "while (1 < k) out 1")

    def test_carry_without_uses(self):
        self.turns("carry", "let x = 1", "x = 1", "")
        self.turns("carry", "let x = 1, y = k", "x = 1", "let y = k")
        self.turns("carry", "if (k) let x = 1; else out 2", "x = 1", "if (k) {} else out 2")
        self.turns("carry", "while (k) let x = 1", "x = 1", "while (k) {}")
        self.turns("carry", "if (k) out 1; else let x = 1, y = x", "x = 1", "if (k) out 1; else let y = 1")

    def test_carry_others(self):
        self.stays("carry", "let x = 1; x = 2", "let x = 1; k(fn () { x = 2 })", "out x; let x = 1", "let f = fn () x; let x = 1; f()", "let f = fn () x, x = 1; f()",
                   "let x = -1; out x", "let x = k; out x", "let x = 1 + 1; out x", "let x = fn () 1; out x", "{ out x } let x = 1", "x = 1; let x = 2",
                   "fn (x) x", "try {} catch (x) { out x }", "let x = !1", "let x = [a: 1]")
        tree = read("let x = 1; out x")
        for path in ((0,), (0, 1), (0, 1, 0, 0), (0, 1, 0, 1), (0, 1, 1), (1, 1)):
            refusal(self, NoTurning, turned, tree, path, "carry")


class All(unittest.TestCase):

    def test_by_the_words(self):
        found = {}
        for tree in TREES:
            rows = turnings_by_words(tree)
            kept = repr(tree)
            self.assertEqual(turnings(tree), sorted(rows), tight(tree))
            for (path, word), outcome in rows.items():
                self.assertEqual(turned(tree, path, word), outcome)
                found[word] = found.get(word, 0) + 1
            self.assertEqual(repr(tree), kept)
        self.assertEqual(sorted(found), sorted(by_words.WORDS))
        self.assertGreater(min(found.values()), 4)

    def test_all_else_is_refused(self):
        for tree in TREES[::12]:
            told = turnings(tree)
            pairs = [(*path, 1, at) for path in parts(tree) if thing_at(tree, path)[0] == "let" for at in range(len(thing_at(tree, path)[1]))]
            for path in [(), *parts(tree), *pairs]:
                for word in by_words.WORDS + ["gone", "behind", ""]:
                    if (path, word) not in told:
                        refusal(self, NoTurning, turned, tree, path, word)

    def test_outcomes_run_alike(self):
        tried = 0
        for tree in TREES + turnable_trees(400, first=9000):
            for path, word in turnings(tree):
                for ins in (INS, {}, {"a": 1, "b": 0, "c": {"a": 2}, "d": -3}):
                    end, number, outs, steps = run(tree, ins, most=100)
                    if end != "long":
                        tried += 1
                        other = run(turned(tree, path, word), ins, most=100)
                        self.assertEqual(other[:3], (end, number, outs), (tight(tree), path, word))
                        self.assertLessEqual(other[3], steps)
        self.assertGreater(tried, 3000)

    def test_outcomes_that_are_too_deep_are_not_told(self):
        # The c of an if lies one deeper in a pick or an and.
        for depth, word, statement in ((15, "and", do(name("l"))), (15, "join", ("out", name("l")))):
            other = None if word == "and" else ("out", name("m"))
            tree = (("if", nested(depth, inner=name("k")), statement, other),)
            must_tree(tree)
            self.assertEqual(turnings(tree), [])
            refusal(self, NoTurning, turned, tree, (0,), word)
            tree = (("if", nested(depth - 1, inner=name("k")), statement, other),)
            self.assertEqual(turnings(tree), [((0,), word)])
            must_tree(turned(tree, (0,), word))
        for depth, told in ((13, []), (12, [((0, 1, 2, 0), "tail")])):
            body = (("if", nested(depth, inner=name("k")), ("return", num(1)), None), ("return", num(2)))
            tree = (do(("fn", (), body)),)
            must_tree(tree)
            self.assertEqual(turnings(tree), told)

    def test_things_that_are_none(self):
        tree = read("out 1 + 2; let x = 1; if (k) { out x } while (0) out 2")
        self.assertEqual(turnings(tree), [((0, 1), "reckon"), ((1, 1, 0), "carry"), ((2, 2), "open")])
        for path in NO_THINGS:
            for word in ("reckon", "open", "carry", None):
                refusal(self, NoTurning, turned, tree, path, word)
        for word in (None, True, 0, "", "gone", "Reckon", "reckon ", ["reckon"], ("reckon",), [], (), {}, "never", "still"):
            refusal(self, NoTurning, turned, tree, (0, 1), word)
            refusal(self, NoTurning, turned, tree, (3,), word)
        for path in ((0, True), (False, 1), [0, 1], (0, 1, 0), (0,), (0, 1, 2), (0, 1, 1)):
            refusal(self, NoTurning, turned, tree, path, "reckon")


class Handling(unittest.TestCase):

    def test_no_trees_go_ahead(self):
        for thing, path, why in ((None, (), "kind"), ([], (), "kind"), ((do(num(-1)),), (0, 1, 1), "number"), ((do(num(1)),) * 151, (), "great")):
            for call, more in ((turnings, ()), (turned, (None, None)), (turned, ((0,), "reckon"))):
                error = refusal(self, NoTree, call, thing, *more)
                self.assertEqual((error.path, error.why), (path, why))

    def test_again_and_by_name(self):
        tree = read("out 1 + 2; let x = 1")
        kept = repr(tree)
        asked_again(self, turnings, tree)
        asked_again(self, turned, tree, (0, 1), "reckon")
        self.assertEqual(turnings(tree=tree), [((0, 1), "reckon"), ((1, 1, 0), "carry")])
        self.assertEqual(turned(word="carry", path=(1, 1, 0), tree=tree), read("out 1 + 2"))
        self.assertEqual(repr(tree), kept)


if __name__ == "__main__":
    unittest.main()
