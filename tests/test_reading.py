"""[9]: texts read as trees."""

import random
import unittest

from helper import asked_again, do, first_wrong, name, nested, num, refusal, sign_of, trees_at_random
from leanscript.errors import NoText, NoTree
from leanscript.reading import read
from leanscript.words import words
from leanscript.writing import tight

A, B, C, D = name("a"), name("b"), name("c"), name("d")
ONE, TWO = num(1), num(2)


def two(sign, left, right):
    return ("two", sign, left, right)


class Reading(unittest.TestCase):

    def reads(self, text, *statements):
        self.assertEqual(read(text), statements, text)

    def expression(self, text, e):
        """That a text is read as an expression wherever one may stand."""
        self.reads(text, do(e))
        self.reads(text + " ;", do(e))
        self.reads("out " + text, ("out", e))
        self.reads("let x = " + text + ", y = " + text, ("let", (("x", e), ("y", e))))
        self.reads("if (" + text + ") a", ("if", e, do(A), None))
        self.reads("(" + text + ")", do(e))
        self.reads("a((" + text + "), " + text + ")", do(("call", A, (e, e))))

    def place(self, text):
        return refusal(self, NoText, read, text).at

    def refused(self, marked):
        """That a text is refused at the place at which a ^ stands in it."""
        at = marked.index("^")
        self.assertEqual(self.place(marked[:at] + marked[at + 1:]), at, marked)

    def no_tree(self, text, path, why):
        error = refusal(self, NoTree, read, text)
        self.assertEqual((error.path, error.why), (path, why), text)


class Statements(Reading):

    def test_none(self):
        for text in ("", " ", "\n \n"):
            self.reads(text)

    def test_let(self):
        self.reads("let x = 1", ("let", (("x", ONE),)))
        self.reads("let x=1,y=2;", ("let", (("x", ONE), ("y", TWO))))
        self.reads("let\nx\n=\n1\n,\ny = x\n;\n", ("let", (("x", ONE), ("y", name("x")))))

    def test_set_put_do(self):
        self.reads("let x = 1; x = 2", ("let", (("x", ONE),)), ("set", "x", TWO))
        self.reads("a.b = 1;", ("put", A, "b", ONE))
        self.reads("a.b.c = 1", ("put", ("get", A, "b"), "c", ONE))
        self.reads("(a).b = 1", ("put", A, "b", ONE))
        self.reads("(a.b).c = 1", ("put", ("get", A, "b"), "c", ONE))
        self.reads("a().b = 1", ("put", ("call", A, ()), "b", ONE))
        self.reads("(a + b).c = d", ("put", two("+", A, B), "c", D))
        self.reads("1 .b = 1", ("put", ONE, "b", ONE))
        self.reads("[].b = 1", ("put", ("rec", ()), "b", ONE))
        self.reads("fn () {}.b = 1", ("put", ("fn", (), ()), "b", ONE))
        self.reads("a.b = fn () c", ("put", A, "b", ("fn", (), ("give", C))))
        self.reads("a", do(A))
        self.reads("a.b", do(("get", A, "b")))
        self.reads("a == b", do(two("==", A, B)))

    def test_words_ahead(self):
        self.reads("fail 1; out 2; fail a", ("fail", ONE), ("out", TWO), ("fail", A))
        self.reads("fn () { return 1; return 2 }", do(("fn", (), (("return", ONE), ("return", TWO)))))
        self.reads("out-1", ("out", ("neg", ONE)))
        self.reads("out fn () 1", ("out", ("fn", (), ("give", ONE))))

    def test_if_and_while(self):
        self.reads("if (a) b", ("if", A, do(B), None))
        self.reads("if (a) b;", ("if", A, do(B), None))
        self.reads("if(a)b;else c", ("if", A, do(B), do(C)))
        self.reads("if (a) {} else {} b", ("if", A, ("block", ()), ("block", ())), do(B))
        self.reads("if (a) let x = 1; else let x = 2;", ("if", A, ("let", (("x", ONE),)), ("let", (("x", TWO),))))
        self.reads("while (a) b; c", ("while", A, do(B)), do(C))
        self.reads("while (a) while (b) {}", ("while", A, ("while", B, ("block", ()))))
        self.reads("if (a) while (b) c; else d", ("if", A, ("while", B, do(C)), do(D)))

    def test_else_belongs_to_the_nearest_if(self):
        inner = ("if", B, do(C), do(D))
        self.reads("if (a) if (b) c; else d", ("if", A, inner, None))
        self.reads("if (a) if (b) c; else d; else a", ("if", A, inner, do(A)))
        self.reads("if (a) {if (b) c} else d", ("if", A, ("block", (("if", B, do(C), None),)), do(D)))
        self.reads("if (a) while (b) if (c) d; else a", ("if", A, ("while", B, ("if", C, do(D), do(A))), None))
        self.reads("if (a) b; else if (b) c; else d", ("if", A, do(B), inner))
        self.reads("while (a) if (b) c; else d", ("while", A, inner))
        self.reads("if (a) try {if (b) c} catch (x) {if (b) c} else d",
                   ("if", A, ("try", (("if", B, do(C), None),), "x", (("if", B, do(C), None),)), do(D)))
        self.reads("if (a) fn () {if (b) c}; else d", ("if", A, do(("fn", (), (("if", B, do(C), None),))), do(D)))

    def test_try_and_block(self):
        self.reads("try {} catch (x) {}", ("try", (), "x", ()))
        self.reads("try { a } catch (x) { b; c; }", ("try", (do(A),), "x", (do(B), do(C))))
        self.reads("{}", ("block", ()))
        self.reads("{a}{b;}", ("block", (do(A),)), ("block", (do(B),)))
        self.reads("{{}{{}}}", ("block", (("block", ()), ("block", (("block", ()),)))))

    def test_semicolons(self):
        self.refused("a ^b")
        self.refused("a;^;")
        self.refused("^;")
        self.refused("{}^;")
        self.refused("{^;}")
        self.refused("if (a) ^;")
        self.refused("if (a) {}^;")
        self.refused("if (a) b ^else c")
        self.refused("if (a) {}^; else c")
        self.refused("try {} ^; catch (x) {}")
        self.refused("while (a) {}^;")
        self.refused("let x = 1 ^let y = 2")
        self.reads("{a;}", ("block", (do(A),)))
        self.reads("{if (a) b}", ("block", (("if", A, do(B), None),)))
        self.reads("{if (a) b; else c}", ("block", (("if", A, do(B), do(C)),)))


class Expressions(Reading):

    def test_tightest(self):
        self.expression("0", num(0))
        self.expression("12e3", num(12000))
        self.expression("1e17", num(10 ** 17))
        self.expression("999999999999999999", num(10 ** 18 - 1))
        self.expression("a", A)
        self.expression("(a)", A)
        self.expression("((\n( a)))", A)
        self.expression("[]", ("rec", ()))
        self.expression("[a: 1]", ("rec", (("a", ONE),)))
        self.expression("[a: 1, b: a.b]", ("rec", (("a", ONE), ("b", ("get", A, "b")))))
        self.expression("fn () {}", ("fn", (), ()))
        self.expression("fn (x, y) { return x }", ("fn", ("x", "y"), (("return", name("x")),)))
        self.expression("fn (x) { {} }", ("fn", ("x",), (("block", ()),)))

    def test_behind(self):
        self.expression("a.b.c", ("get", ("get", A, "b"), "c"))
        self.expression("a()", ("call", A, ()))
        self.expression("a(b)(c, d)", ("call", ("call", A, (B,)), (C, D)))
        self.expression("a.b(c).d", ("get", ("call", ("get", A, "b"), (C,)), "d"))
        self.expression("1(2)", ("call", ONE, (TWO,)))
        self.expression("1 . a", ("get", ONE, "a"))
        self.expression("[](a).b", ("get", ("call", ("rec", ()), (A,)), "b"))
        self.expression("fn (x) {}(1)", ("call", ("fn", ("x",), ()), (ONE,)))
        self.expression("(fn (x) x)(1)", ("call", ("fn", ("x",), ("give", name("x"))), (ONE,)))

    def test_ahead(self):
        self.expression("-a", ("neg", A))
        self.expression("!a", ("not", A))
        self.expression("- -!a", ("neg", ("neg", ("not", A))))
        self.expression("--a", ("neg", ("neg", A)))
        self.expression("!!a", ("not", ("not", A)))
        self.expression("-a.b", ("neg", ("get", A, "b")))
        self.expression("!a()", ("not", ("call", A, ())))
        self.expression("(-a).b", ("get", ("neg", A), "b"))
        self.expression("-a*b", two("*", ("neg", A), B))
        self.expression("a*-b", two("*", A, ("neg", B)))
        self.expression("a- -b", two("-", A, ("neg", B)))
        self.expression("a--b", two("-", A, ("neg", B)))
        self.expression("-(a+b)", ("neg", two("+", A, B)))

    def test_two_from_the_left(self):
        for signs in (("==", "!="), ("<", ">", "<=", ">="), ("+", "-"), ("*", "/", "~")):
            for one in signs:
                for other in signs:
                    self.expression("a" + one + "b" + other + "c", two(other, two(one, A, B), C))
                    self.expression("a" + one + "(b" + other + "c)", two(one, A, two(other, B, C)))
        self.expression("a&&b&&c", ("and", ("and", A, B), C))
        self.expression("a||b||c", ("or", ("or", A, B), C))
        self.expression("a&&(b&&c)", ("and", A, ("and", B, C)))

    def test_how_loosely_they_bind(self):
        order = [("||",), ("&&",), ("==", "!="), ("<", ">", "<=", ">="), ("+", "-"), ("*", "/", "~")]

        def made(sign, left, right):
            word = {"||": "or", "&&": "and"}.get(sign)
            return (word, left, right) if word else two(sign, left, right)
        for at, loose in enumerate(order):
            for tight_ones in order[at + 1:]:
                for one in loose:
                    for other in tight_ones:
                        self.expression("a" + one + "b" + other + "c", made(one, A, made(other, B, C)))
                        self.expression("a" + other + "b" + one + "c", made(one, made(other, A, B), C))
                        self.expression("(a" + one + "b)" + other + "c", made(other, made(one, A, B), C))

    def test_a_long_row(self):
        self.expression("a || b && c == d < a + b * -c.d",
                        ("or", A, ("and", B, two("==", C, two("<", D, two("+", A, two("*", B, ("neg", ("get", C, "d"))))))))
                        )
        self.expression("a*b+c<d==a&&b||c",
                        ("or", ("and", two("==", two("<", two("+", two("*", A, B), C), D), A), B), C))

    def test_pick(self):
        self.expression("a?b:c", ("pick", A, B, C))
        self.expression("a||b?c:d", ("pick", ("or", A, B), C, D))
        self.expression("a?b:c?d:a", ("pick", A, B, ("pick", C, D, A)))
        self.expression("a?b?c:d:a", ("pick", A, ("pick", B, C, D), A))
        self.expression("(a?b:c)?d:a", ("pick", ("pick", A, B, C), D, A))
        self.expression("a?b||c:d&&a", ("pick", A, ("or", B, C), ("and", D, A)))
        self.expression("a?fn (x) x:fn (x) x",
                        ("pick", A, ("fn", ("x",), ("give", name("x"))), ("fn", ("x",), ("give", name("x")))))
        self.expression("fn () {}?1:2", ("pick", ("fn", (), ()), ONE, TWO))

    def test_fn_that_gives(self):
        self.expression("fn () a", ("fn", (), ("give", A)))
        self.expression("fn (x, y) x + y", ("fn", ("x", "y"), ("give", two("+", name("x"), name("y")))))
        self.expression("fn (x) fn (y) x", ("fn", ("x",), ("give", ("fn", ("y",), ("give", name("x"))))))
        self.expression("fn (x) a?b:c", ("fn", ("x",), ("give", ("pick", A, B, C))))
        self.expression("fn (x) fn (y) {}", ("fn", ("x",), ("give", ("fn", ("y",), ()))))
        self.expression("fn (x) (x)", ("fn", ("x",), ("give", name("x"))))
        self.expression("fn (x) []", ("fn", ("x",), ("give", ("rec", ()))))
        self.expression("fn (x) (fn () {})", ("fn", ("x",), ("give", ("fn", (), ()))))
        self.expression("[a: fn (x) x, b: 1]", ("rec", (("a", ("fn", ("x",), ("give", name("x")))), ("b", ONE))))
        self.expression("a(fn (x) x, 1)", ("call", A, (("fn", ("x",), ("give", name("x"))), ONE)))
        self.expression("1 + (fn (x) x)", two("+", ONE, ("fn", ("x",), ("give", name("x")))))
        self.expression("1 + fn (x) {}", two("+", ONE, ("fn", ("x",), ())))


class Refused(Reading):

    def test_documents_own(self):
        self.refused("1 + fn (x) ^x")
        self.refused("(a.b) ^= 1")
        self.refused("-a.b ^= 1")
        self.refused("a = b ^= c")
        self.refused("fn () { return^; }")
        self.refused("return^;")

    def test_sets_and_puts_that_are_none(self):
        for text in ("(a) ^= 1", "1 ^= 1", "a() ^= 1", "a + b ^= 1", "a + b.c ^= 1", "!a ^= 1", "-a ^= 1", "[] ^= 1",
                     "a ? b : c ^= 1", "a ? b : c.d ^= 1", "fn (x) x ^= 1", "fn (x) x.y ^= 1", "fn () {} ^= 1",
                     "((a).b) ^= 1", "a.b = c ^= 1", "a.b = c.d ^= 1", "a.b() ^= 1", "a || b.c ^= 1", "(a.b)() ^= 1",
                     "out a ^= 1", "a == b ^= c", "let a = b ^= c", "if (a ^= b) c", "a(b ^= c)"):
            self.refused(text)

    def test_where_fn_must_have_a_body(self):
        for text in ("-fn () ^x", "!fn (x) ^x", "a || fn (x) ^x", "a && fn (x) ^(x)", "a == fn () ^1", "a * fn () ^-1",
                     "a < b + fn () ^[]", "a ? b || fn () ^c : d", "a || fn () ^"):
            self.refused(text)
        for text in ("fn () ^}", "fn () ^;", "fn () ^)", "fn () ^let", "fn () ^= 1"):
            self.refused(text)

    def test_words_that_stand_wrong(self):
        for text in ("^else", "^catch (x) {}", "^}", "^)", "^]", "^=", "^+ a", "^* a", "^.a", "^, a", "^: a", "^? a",
                     "let ^1 = 2", "let x ^1", "let x ^;", "let x = ^;", "let x = 1, ^;", "let x = 1, ^2", "let ^let = 1",
                     "let x ^== 1", "let x^.y = 1",
                     "if ^a", "if (^)", "if (a^;", "if (a) ^)", "if (a) ^}", "if (a) b; else ^else", "while ^{", "while (^)",
                     "while (a) ^else", "if (a) {} else {} ^else {}", "{if (a) b} ^else c", "try ^a", "try {} ^a",
                     "try {} catch ^x", "try {} catch (^) {}", "try {} catch (^1) {}", "try {} catch (^fn) {}",
                     "try {} catch (x^, y) {}", "try {} catch (x) ^a", "{^)", "{a^)", "a^}", "{}^}", "out^;", "fail ^}",
                     "out ^out", "a.^1", "a.^let", "a.^(", "a(^,", "a(b^;", "a(b,^)", "a(b ^c)",
                     "[^1]", "[a^]", "[a^, b]", "[a: ^]", "[a: b, ^]", "[a: b^;", "[^let: 1]", "(^)", "(a^,", "(a^;)", "(a^]",
                     "fn ^x", "fn (^1)", "fn (x ^y) x", "fn (x, ^) x", "fn (^,) x", "fn (^(x)) x",
                     "fn (^fn) x", "fn^{}", "a ? b ^;", "a ? ^: b", "a ? b : ^;", "a ? b ^) c", "a ^: b", "a ^1", "1 ^a",
                     "a(^]", "a + ^;", "a + ^* b", "a && ^&& b", "- ^;", "! ^= 1", "a ^! b",
                     "a.b ^c", "a ^[b]", "a ^{", "a ^fn", "a ^let x = 1", "1 ^1"):
            self.refused(text)

    def test_texts_that_end_too_soon(self):
        for text in ("let", "let x", "let x =", "let x = 1,", "return", "fail", "out ", "if", "if (", "if (a", "if (a)",
                     "if (a) b; else", "while", "while (", "while (a) ", "try", "try {", "try {}", "try {} catch",
                     "try {} catch (", "try {} catch (x", "try {} catch (x)", "try {} catch (x) {", "{", "{{}", "{a",
                     "{a;\n", "a +", "a.", "a(", "a(b", "a(b,", "[", "[a", "[a:", "[a: b", "[a: b,", "(", "(a", "-", "!",
                     "fn", "fn (", "fn (x", "fn (x,", "fn (x)", "fn (x) {", "a ?", "a ? b", "a ? b :", "a =", "a.b =",
                     "a ||  ", "1 + fn ()", "if (a) if (b) c; else \n"):
            self.assertEqual(self.place(text), len(text), text)

    def test_words_that_are_none_go_first(self):
        self.assertEqual(self.place("; ; @"), 4)
        self.assertEqual(self.place(") 01"), 2)
        self.assertEqual(self.place("return 1 aB"), 10)

    def test_texts_that_are_no_trees(self):
        self.no_tree("return 1", (0,), "return")
        self.no_tree("a; { return a; }", (1, 1, 0), "return")
        self.no_tree("x = 1", (0,), "set")
        self.no_tree("let x = 1; fn () { y = 1 }", (1, 1, 2, 0), "set")
        self.no_tree("let x = 1; let x = 2", (1, 1, 0, 0), "twice")
        self.no_tree("let x = 1, x = 2", (0, 1, 1, 0), "twice")
        self.no_tree("fn (x, y, x) x", (0, 1, 1, 2), "twice")
        self.no_tree("fn (x) { let x = 1 }", (0, 1, 2, 0, 1, 0, 0), "twice")
        self.no_tree("[a: 1, b: 2, a: 3]", (0, 1, 1, 2, 0), "twice")
        self.no_tree("try {} catch (x) { let x = 1 }", (0, 3, 0, 1, 0, 0), "twice")
        self.no_tree("a;" * 151, (), "great")
        self.no_tree("-" * 15 + "1", (), "great")
        self.reads("-" * 14 + "1", do(nested(15)))

    def test_a_wrong_text_goes_ahead_of_no_tree(self):
        self.refused("return 1; ^;")
        self.refused("x = 1; ^)")

    def test_texts_at_their_bounds(self):
        self.reads("(" * 40 + "a" + ")" * 40, do(A))
        self.no_tree("a" + "+a" * 60, (), "great")
        self.no_tree("fn () {" * 40 + "}" * 40, (), "great")
        self.no_tree("[a: " * 40 + "1" + "]" * 40, (), "great")
        self.no_tree("{" * 40 + "}" * 40, (), "great")
        self.no_tree("if (a) " * 40 + "b", (), "great")
        text = "a"
        for _ in range(40):
            text = "(" + text + ")" + "+a" * 46
        self.no_tree(text, (), "great")
        text = "a"
        for _ in range(40):
            text = "a||a&&a==a<a+a*-(" + text + ")"
        self.no_tree(text, (), "great")


class AtRandom(Reading):

    def test_just_what_the_grammar_says(self):
        rng = random.Random(3)
        pool = "x 1 fn let if else while return fail try catch out + - < == && || ! ? : . , = ( ) { } [ ] ;".split()
        for tree in trees_at_random(150, 4):
            row = [word for _, word, _ in words(tight(tree))]
            for _ in range(4):
                told = list(row) or ["a"]
                at, other = rng.randrange(len(told)), rng.randrange(len(told))
                change = rng.randrange(4)
                if change == 0:
                    del told[at]
                elif change == 1:
                    told.insert(at, rng.choice(pool))
                elif change == 2:
                    told[at] = rng.choice(pool)
                else:
                    told[at], told[other] = told[other], told[at]
                self.agrees(" ".join(told) + rng.choice(("", " ", "\n")))

    def agrees(self, text):
        row = words(text)
        wrong = first_wrong([sign_of(sort, word) for sort, word, _ in row])
        wanted = None if wrong is None else len(text) if wrong == len(row) else row[wrong][2]
        try:
            read(text)
            found = None
        except NoText as error:
            found = error.at
        except NoTree:
            found = None
        self.assertEqual(found, wanted, text)

    def test_asked_again(self):
        asked_again(self, read, "let x = [a: 1]; x.a = 2; out x.a")
        self.assertEqual(read(text="a"), (do(A),))


if __name__ == "__main__":
    unittest.main()
