"""[11]: trees written as texts."""

import itertools
import unittest

from helper import TWO_SIGNS, asked_again, do, name, num, refusal, trees_at_random
from leanscript.errors import LeanError, NoTree
from leanscript.reading import read, spots
from leanscript.trees import must_tree
from leanscript.words import words
from leanscript.writing import plain, tight, tight_spots

A, B, C, D = name("a"), name("b"), name("c"), name("d")
GIVE = ("fn", ("x",), ("give", A))

# For each kind of expression one, its text, and how tightly it binds.
EACH = [
    (("pick", A, B, C), "a?b:c", 0), (GIVE, "fn(x)a", 0), (("or", A, B), "a||b", 1), (("and", A, B), "a&&b", 2),
    *[(("two", sign, A, B), "a" + sign + "b", 3) for sign in ("==", "!=")],
    *[(("two", sign, A, B), "a" + sign + "b", 4) for sign in ("<", ">", "<=", ">=")],
    *[(("two", sign, A, B), "a" + sign + "b", 5) for sign in ("+", "-")],
    *[(("two", sign, A, B), "a" + sign + "b", 6) for sign in ("*", "/", "~")],
    (("neg", A), "-a", 7), (("not", A), "!a", 7), (("get", A, "k"), "a.k", 8), (("call", A, ()), "a()", 8),
    (("call", A, (B, C)), "a(b,c)", 8), (num(1), "1", 9), (A, "a", 9), (("rec", ()), "[]", 9),
    (("rec", (("k", A), ("l", B))), "[k:a,l:b]", 9), (("fn", (), ()), "fn(){}", 9), (("fn", ("x", "y"), (do(A),)), "fn(x,y){a}", 9),
]


class Writing(unittest.TestCase):

    def writes(self, text, *statements):
        self.assertEqual(tight(statements), text)
        self.assertEqual(read(text), statements)

    def bracketed(self, text, level, least):
        return "(" + text + ")" if level < least else text


class Brackets(Writing):

    def test_each_alone(self):
        for e, text, _ in EACH:
            self.writes(text, do(e))

    def test_each_inside_each(self):
        for e, text, level in EACH:
            self.writes("-" + self.bracketed(text, level, 7), do(("neg", e)))
            self.writes("!" + self.bracketed(text, level, 7), do(("not", e)))
            self.writes(self.bracketed(text, level, 8) + ".k", do(("get", e, "k")))
            self.writes(self.bracketed(text, level, 8) + ".k=a", ("put", e, "k", A))
            self.writes(self.bracketed(text, level, 8) + "()", do(("call", e, ())))
            self.writes("a(" + text + "," + text + ")", do(("call", A, (e, e))))
            self.writes("[k:" + text + ",l:" + text + "]", do(("rec", (("k", e), ("l", e)))))
            self.writes("fn()" + text, do(("fn", (), ("give", e))))
            self.writes(self.bracketed(text, level, 1) + "?" + text + ":" + text, do(("pick", e, e, e)))

    def test_each_on_both_sides_of_each_sign(self):
        signs = [("or", "||", 1), ("and", "&&", 2)] + [(None, text[1:-1], level) for e, text, level in EACH if e[0] == "two"]
        self.assertEqual(len(signs), 2 + len(TWO_SIGNS))
        for word, sign, own in signs:
            for e, text, level in EACH:
                left = (word, e, D) if word else ("two", sign, e, D)
                self.writes(self.bracketed(text, level, own) + sign + "d", do(left))
                right = (word, D, e) if word else ("two", sign, D, e)
                self.writes("d" + sign + self.bracketed(text, level, own + 1), do(right))
                both = (word, e, e) if word else ("two", sign, e, e)
                self.writes(self.bracketed(text, level, own) + sign + self.bracketed(text, level, own + 1), do(both))

    def test_each_in_each_statement(self):
        for e, text, _ in EACH:
            gap = " " if text[0].isalnum() else ""
            self.writes("let x=" + text + ",y=" + text, ("let", (("x", e), ("y", e))))
            self.writes("let x=1;x=" + text, ("let", (("x", num(1)),)), ("set", "x", e))
            self.writes("a.k=" + text, ("put", A, "k", e))
            self.writes("out" + gap + text, ("out", e))
            self.writes("fail" + gap + text + ";out" + gap + text, ("fail", e), ("out", e))
            self.writes("fn(){return" + gap + text + "}", do(("fn", (), (("return", e),))))
            self.writes("if(" + text + ")" + text, ("if", e, do(e), None))
            self.writes("if(" + text + ")" + text + ";else" + gap + text, ("if", e, do(e), do(e)))
            self.writes("while(" + text + ")" + text, ("while", e, do(e)))


class Statements(Writing):

    def test_semicolons(self):
        self.writes("")
        self.writes("a;b", do(A), do(B))
        self.writes("{a;b}{}c", ("block", (do(A), do(B))), ("block", ()), do(C))
        self.writes("if(a){b}c", ("if", A, ("block", (do(B),)), None), do(C))
        self.writes("if(a)b;c", ("if", A, do(B), None), do(C))
        self.writes("if(a){}else{}a", ("if", A, ("block", ()), ("block", ())), do(A))
        self.writes("{if(a)b;else c}", ("block", (("if", A, do(B), do(C)),)))
        self.writes("fn(){};a", do(("fn", (), ())), do(A))
        self.writes("{while(a)while(b)c}", ("block", (("while", A, ("while", B, do(C))),)))
        self.writes("try{a;b}catch(x){c}try{}catch(y){}", ("try", (do(A), do(B)), "x", (do(C),)), ("try", (), "y", ()))
        self.writes("if(a)if(b)c;else d", ("if", A, ("if", B, do(C), do(D)), None))
        self.writes("if(a)b;else if(c)d", ("if", A, do(B), ("if", C, do(D), None)))
        self.writes("if(a){if(b)c}else d", ("if", A, ("block", (("if", B, do(C), None),)), do(D)))
        self.writes("if(a)let x=1;else let y=2", ("if", A, ("let", (("x", num(1)),)), ("let", (("y", num(2)),))))

    def test_blanks(self):
        self.writes("let a=fn(){return a}", ("let", (("a", ("fn", (), (("return", A),))),)))
        self.writes("out 1;out-1;out!a;out[];out fn()1", ("out", num(1)), ("out", ("neg", num(1))), ("out", ("not", A)),
                    ("out", ("rec", ())), ("out", ("fn", (), ("give", num(1)))))
        self.writes("out(a+b)*c", ("out", ("two", "*", ("two", "+", A, B), C)))
        self.writes("if(a){}else{b}", ("if", A, ("block", ()), ("block", (do(B),))))
        self.writes("if(a)b;else-c", ("if", A, do(B), do(("neg", C))))
        self.writes("a- -b".replace(" ", ""), do(("two", "-", A, ("neg", B))))
        self.writes("--a;!!a;-!a", do(("neg", ("neg", A))), do(("not", ("not", A))), do(("neg", ("not", A))))
        self.writes("a<!b;a==!b", do(("two", "<", A, ("not", B))), do(("two", "==", A, ("not", B))))
        self.writes("1.k", do(("get", num(1), "k")))
        self.writes("a.k=b.l", ("put", A, "k", ("get", B, "l")))

    def test_numbers(self):
        for n, word in ((0, "0"), (7, "7"), (10, "10"), (100, "100"), (1000, "1e3"), (1200, "1200"), (12000, "12e3"),
                        (10 ** 9, "1e9"), (10 ** 10, "10e9"), (10 ** 11, "1e11"), (12 * 10 ** 9, "12e9"), (12 * 10 ** 10, "120e9"),
                        (10 ** 17, "1e17"), (10 ** 18 - 1, "999999999999999999"), (10 ** 18 - 1000, "999999999999999e3"),
                        (1010, "1010"), (500000, "5e5"), (101000, "101e3")):
            self.writes(word, do(num(n)))

    def test_numbers_are_the_first_of_the_shortest(self):
        for head in (1, 9, 10, 12, 100, 101, 120, 999):
            for many in range(16):
                n = head * 10 ** many
                forms = [str(n)] + [str(n // 10 ** cut) + "e" + str(cut) for cut in range(1, 18) if n % 10 ** cut == 0]
                self.writes(min(forms, key=lambda word: (len(word), word)), do(num(n)))

    def test_put_together_from_both_sides(self):
        self.writes("a-(b-c)", do(("two", "-", A, ("two", "-", B, C))))
        self.writes("a-b-c", do(("two", "-", ("two", "-", A, B), C)))
        self.writes("(a?b:c)?d:a?b:c", do(("pick", ("pick", A, B, C), D, ("pick", A, B, C))))
        self.writes("(fn(x)a)(b)", do(("call", GIVE, (B,))))
        self.writes("fn(x){}(b).k", do(("get", ("call", ("fn", ("x",), ()), (B,)), "k")))
        self.writes("fn(x)fn(x)a", do(("fn", ("x",), ("give", GIVE))))


class Shortest(Writing):

    def test_no_shorter_and_no_earlier_text(self):
        """Of all texts of a few words, put together in every way."""
        for pool, most in ((["a", "1", "+", "(", ")", ";", " "], 5), (["a", "-", "!", "(", ")", "*", "<="], 5),
                           (["a", "fn", "(", ")", "{", "}", " ", ";"], 6), (["a", "if", "(", ")", "else", ";", " "], 6)):
            best = {}
            for many in range(most + 1):
                for row in itertools.product(pool, repeat=many):
                    text = "".join(row)
                    try:
                        tree = repr(read(text))
                    except LeanError:
                        continue
                    best[tree] = min(best.get(tree, text), text, key=lambda one: (len(one), one))
            for tree, text in best.items():
                self.assertLessEqual((len(tight(read(text))), tight(read(text))), (len(text), text))

    def test_nothing_can_go(self):
        for tree in trees_at_random(60, 4):
            text = tight(tree)
            self.assertNotIn("\n", text)
            for at in range(len(text)):
                self.unlike(text[:at] + text[at + 1:], tree)

    def unlike(self, text, tree):
        try:
            self.assertNotEqual(read(text), tree)
        except LeanError:
            pass

    def test_no_brackets_can_go(self):
        for tree in trees_at_random(100, 4):
            row = [word for _, word, _ in words(tight(tree))]
            waiting = []
            for at, word in enumerate(row):
                if word == "(":
                    waiting.append(at)
                elif word == ")":
                    begin = waiting.pop()
                    self.unlike(" ".join(row[:begin] + row[begin + 1:at] + row[at + 1:]), tree)


class All(Writing):

    def test_read_tells_the_tree_again(self):
        for tree in trees_at_random(400):
            self.assertEqual(read(tight(tree)), tree)
            self.assertEqual(read(plain(tree)), tree)

    def test_plain(self):
        self.assertEqual(plain(()), "")
        self.assertEqual(plain((do(A),)), "a")
        self.assertEqual(plain(read("let x = 1; out (x + 1) * 1000;")),
                         "let\nx\n=\n1\n;\nout\n(\nx\n+\n1\n)\n*\n1e3")
        for tree in trees_at_random(100):
            self.assertEqual("\n".join(word for _, word, _ in words(plain(tree))), plain(tree))

    def test_tight_spots(self):
        self.assertEqual(tight_spots(()), [])
        self.assertEqual(tight_spots(read("out ( a ) ;")), [((0,), 0, 5), ((0, 1), 4, 5)])
        self.assertEqual(tight_spots(read("(a + b) * 1000")), [
            ((0,), 0, 9), ((0, 1), 0, 9), ((0, 1, 2), 1, 4), ((0, 1, 2, 2), 1, 2), ((0, 1, 2, 3), 3, 4), ((0, 1, 3), 6, 9)])
        for tree in trees_at_random(100):
            self.assertEqual(tight_spots(tree), spots(tight(tree)))

    def test_no_trees(self):
        for call in (tight, plain, tight_spots):
            for thing, path, why in ((None, (), "kind"), ([], (), "kind"), ("a", (), "kind"), ((do(num(-1)),), (0, 1, 1), "number"),
                                     ((("return", A),), (0,), "return"), ((do(A),) * 151, (), "great")):
                error = refusal(self, NoTree, call, thing)
                self.assertEqual((error.path, error.why), (path, why))

    def test_again_and_by_name(self):
        tree = read("let x = [a: 1]; x.a = 2")
        kept = repr(tree)
        for call in (tight, plain, tight_spots):
            asked_again(self, call, tree)
            self.assertEqual(call(tree=tree), call(tree))
        self.assertEqual(repr(tree), kept)
        self.assertIsNone(must_tree(tree))


if __name__ == "__main__":
    unittest.main()
