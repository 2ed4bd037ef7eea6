"""[8]: what is a tree, and why a thing is none."""

import unittest

from helper import do, name, nested, num, refusal
from leanscript.errors import NoTree
from leanscript.trees import must_tree

A, B = name("a"), name("b")
LET = ("let", (("x", A),))


class MustTree(unittest.TestCase):

    def holds(self, thing):
        self.assertIsNone(must_tree(thing))

    def refused(self, thing, path, why):
        error = refusal(self, NoTree, must_tree, thing)
        self.assertEqual((error.path, error.why), (path, why), thing)

    def in_do(self, e, steps, why):
        """Refused where it stands as an expression."""
        self.refused((do(e),), (0, 1, *steps), why)

    def in_list(self, s, steps, why):
        """Refused where it stands as a statement."""
        self.refused((s,), (0, *steps), why)


class Kinds(MustTree):

    def test_no_tuple(self):
        for thing in (None, True, 0, "", "block", [], [do(A)]):
            self.refused(thing, (), "kind")
        self.holds(())
        self.assertIsNone(must_tree(thing=()))

    def test_no_statement(self):
        for s in (None, 1, "do", [], ["do", A], (), ("do",), ("do", A, A), ("Do", A), (None, A), (["do"], A), (True, A),
                  A, num(1), ("give", A), ("if", A, do(A)), ("let",), ("return",), ("while", A), ("put", A, "k"),
                  ("try", (), "x"), ("block",), ("set", "x"), ("out",), ("fail",), (("do", A),), ("do",) * 60):
            self.refused((s,), (0,), "kind")
            self.refused((do(A), s), (1,), "kind")
        self.holds((do(A),))

    def test_no_expression(self):
        for e in (None, 1, "a", [], (), ("num",), ("num", 1, 2), ("name",), ("get", A), ("call", A), ("rec",), ("fn", ()),
                  ("neg",), ("not", A, A), ("two", "+", A), ("and", A), ("or", A), ("pick", A, A), ("give", A),
                  do(A), ("block", ()), ["name", "a"], (0, 1), ("var", "a"), ((),), (("name",), "a")):
            self.in_do(e, (), "kind")
            self.in_do(("neg", e), (1,), "kind")
            self.in_do(("two", "+", A, e), (3,), "kind")
            self.in_do(("pick", A, e, A), (2,), "kind")
            self.in_do(("call", A, (A, e)), (2, 1), "kind")
            self.in_do(("rec", (("k", A), ("l", e))), (1, 1, 1), "kind")
            self.in_do(("fn", (), ("give", e)), (2, 1), "kind")
            self.in_list(("let", (("x", e),)), (1, 0, 1), "kind")
            self.in_list(("if", e, do(A), None), (1,), "kind")
            self.in_list(("put", e, "k", A), (1,), "kind")
            self.in_list(("put", A, "k", e), (3,), "kind")
            self.in_list(("out", e), (1,), "kind")

    def test_statements_in_the_stead_of_others(self):
        self.in_list(("if", A, None, None), (2,), "kind")
        self.in_list(("if", A, A, None), (2,), "kind")
        self.in_list(("if", A, do(A), A), (3,), "kind")
        self.in_list(("if", A, do(A), ()), (3,), "kind")
        self.in_list(("if", A, do(A), False), (3,), "kind")
        self.in_list(("if", A, do(A), 0), (3,), "kind")
        self.in_list(("if", A, do(A), do(None)), (3, 1), "kind")
        self.in_list(("if", A, do(A), ("if", A, do(A), ("fail", num(-1)))), (3, 3, 1, 1), "number")
        self.in_list(("while", A, None), (2,), "kind")
        self.in_list(("block", (do(A), None)), (1, 1), "kind")
        self.in_list(("try", (A,), "x", ()), (1, 0), "kind")
        self.in_list(("try", (), "x", (A,)), (3, 0), "kind")

    def test_lists_that_are_no_tuples(self):
        for thing in (None, "", "ab", [], 0, True):
            self.in_do(("call", A, thing), (2,), "kind")
            self.in_do(("rec", thing), (1,), "kind")
            self.in_do(("fn", thing, ()), (1,), "kind")
            self.in_do(("fn", (), thing), (2,), "kind")
            self.in_list(("let", thing), (1,), "kind")
            self.in_list(("block", thing), (1,), "kind")
            self.in_list(("try", thing, "x", ()), (1,), "kind")
            self.in_list(("try", (), "x", thing), (3,), "kind")

    def test_pairs(self):
        self.in_list(("let", ()), (1,), "kind")
        self.holds((do(("rec", ())),))
        for pair in (None, "xy", (), ("x",), ("x", A, A), ["x", A]):
            self.in_list(("let", (("y", A), pair)), (1, 1), "kind")
            self.in_do(("rec", (("y", A), pair)), (1, 1), "kind")

    def test_bodies(self):
        self.holds((do(("fn", (), ("give", A))),))
        self.holds((do(("fn", (), (do(A), do(A)))),))
        self.in_do(("fn", (), ("give",)), (2, 0), "kind")
        self.in_do(("fn", (), ("give", A, A)), (2, 0), "kind")
        self.in_do(("fn", (), ("Give", A)), (2, 0), "kind")
        self.in_do(("fn", (), (("give", A),)), (2, 0), "kind")
        self.in_do(("fn", (), ("give", do(A))), (2, 1), "kind")
        self.in_do(("fn", (), ["give", A]), (2,), "kind")
        self.in_do(("fn", (), A), (2, 0), "kind")


class Names(MustTree):

    def test_names(self):
        for x in (None, 1, True, "", "let", "fn", "X", "a1", "a b", "a_b", "abcdefghijklm", ("a",), ["a"], "\u00e9", "a\n"):
            self.in_do(("name", x), (1,), "name")
            self.in_do(("get", A, x), (2,), "name")
            self.in_do(("rec", ((x, A),)), (1, 0, 0), "name")
            self.in_do(("fn", ("a", x), ()), (1, 1), "name")
            self.in_list(("let", ((x, A),)), (1, 0, 0), "name")
            self.in_list(("set", x, A), (1,), "name")
            self.in_list(("put", A, x, A), (2,), "name")
            self.in_list(("try", (), x, ()), (2,), "name")
        for x in ("a", "z", "lets", "give", "abcdefghijkl"):
            self.holds((do(name(x)), do(("get", A, x)), do(("fn", (x,), ())), ("let", ((x, A),)), ("set", x, A),
                        ("try", (), x, ())))

    def test_numbers(self):
        for n in (-1, True, False, None, "1", 10 ** 18, 10 ** 29, (1,), [1]):
            self.in_do(("num", n), (1,), "number")
        for n in (0, 1, 10 ** 18 - 1):
            self.holds((do(num(n)),))

    def test_signs(self):
        for sign in (None, "", "=", "&&", "||", "!", "**", "<>", "+ ", 1, ("+",), ["+"], "<=>"):
            self.in_do(("two", sign, A, A), (1,), "sign")
        for sign in ("+", "-", "*", "/", "~", "<", ">", "<=", ">=", "==", "!="):
            self.holds((do(("two", sign, A, A)),))

    def test_twice(self):
        self.in_do(("rec", (("k", A), ("l", A), ("k", A))), (1, 2, 0), "twice")
        self.in_do(("rec", (("k", A), ("k", A), ("k", A))), (1, 1, 0), "twice")
        self.in_do(("fn", ("x", "y", "x"), ()), (1, 2), "twice")
        self.in_do(("fn", ("x", "x"), ("give", A)), (1, 1), "twice")
        self.holds((do(("rec", (("k", A), ("l", ("rec", (("k", A),)))))),))
        self.holds((do(("fn", ("x",), ("give", ("fn", ("x",), ())))),))
        self.in_do(("fn", (1, 1), ()), (1, 0), "name")
        self.in_do(("fn", ("x", 1, "x", 1), ()), (1, 1), "name")
        self.in_do(("rec", ((1, A), (1, A))), (1, 0, 0), "name")

    def test_the_least_path_goes_first(self):
        self.refused((do(("neg", None)), None), (0, 1, 1), "kind")
        self.refused((do(("two", "?", None, A)),), (0, 1, 1), "sign")
        self.refused((do(("two", "+", num(-1), name("X"))),), (0, 1, 2, 1), "number")
        self.refused((do(("get", name("X"), "K")),), (0, 1, 1, 1), "name")
        self.refused((do(("rec", (("k", None), ("k", A)))),), (0, 1, 1, 0, 1), "kind")
        self.refused((do(("rec", (("k", A), ("k", None)))),), (0, 1, 1, 1, 0), "twice")
        self.refused((do(("rec", (("k", A), None, ("k", A)))),), (0, 1, 1, 1), "kind")
        self.refused((do(("fn", ("x", "x"), None)),), (0, 1, 1, 1), "twice")
        self.refused((do(("fn", None, None)),), (0, 1, 1), "kind")
        self.refused((("try", (None,), "X", None),), (0, 1, 0), "kind")
        self.refused((("try", (), "X", None),), (0, 2), "name")
        self.refused((("put", A, "K", None),), (0, 2), "name")
        self.refused((("put", None, "K", None),), (0, 1), "kind")
        self.refused((("set", "X", None),), (0, 1), "name")
        self.refused((("let", (("x", A), ("X", None))),), (0, 1, 1, 0), "name")
        self.refused((("if", A, ("return", None), None), ["no"]), (0, 2, 1), "kind")

    def test_form_goes_ahead_of_place(self):
        self.refused((("return", A), ("set", "x", A), do(num(-1))), (2, 1, 1), "number")
        self.refused((("set", "x", A), LET, LET), (2, 1, 0, 0), "twice")


class Places(MustTree):

    def test_let_twice(self):
        self.in_list(("block", (LET, LET)), (1, 1, 1, 0, 0), "twice")
        self.refused((LET, do(A), LET), (2, 1, 0, 0), "twice")
        self.refused((("let", (("x", A), ("y", A), ("x", A))),), (0, 1, 2, 0), "twice")
        self.refused((do(("fn", ("x",), (LET,))),), (0, 1, 2, 0, 1, 0, 0), "twice")
        self.refused((("try", (), "x", (LET,)),), (0, 3, 0, 1, 0, 0), "twice")
        self.refused((("try", (LET, LET), "x", ()),), (0, 1, 1, 1, 0, 0), "twice")
        self.refused((("if", A, ("let", (("x", A), ("x", A))), None),), (0, 2, 1, 1, 0), "twice")
        self.refused((LET, LET, LET), (1, 1, 0, 0), "twice")

    def test_let_in_rooms_of_their_own(self):
        self.holds((LET, ("block", (LET,)), ("block", (LET, ("block", (LET,))))))
        self.holds((LET, ("if", A, LET, LET), ("while", A, LET)))
        self.holds((("try", (LET,), "x", (("block", (LET,)),)),))
        self.holds((LET, do(("fn", ("x",), (("block", (LET,)),)))))
        self.holds((LET, do(("fn", (), (LET,)))))
        self.holds((("let", (("x", ("fn", ("x",), ("give", A))),)),))

    def test_return(self):
        self.refused((("return", A),), (0,), "return")
        self.refused((("block", (("if", A, ("return", A), None),)),), (0, 1, 0, 2), "return")
        self.refused((("try", (), "x", (("return", A),)),), (0, 3, 0), "return")
        self.refused((do(("fn", (), ())), ("return", A)), (1,), "return")
        self.holds((do(("fn", (), (("return", A),))),))
        self.holds((do(("fn", (), (("while", A, ("try", (("return", A),), "x", (("return", A),))),))),))
        self.holds((("let", (("f", ("fn", (), (("if", A, ("return", A), None),))),)),))

    def test_set(self):
        self.refused((("set", "x", A),), (0,), "set")
        self.refused((("block", (LET,)), ("set", "x", A)), (1,), "set")
        self.refused((("if", A, LET, ("set", "x", A)),), (0, 3), "set")
        self.refused((("try", (LET, ("set", "e", A)), "e", ()),), (0, 1, 1), "set")
        self.refused((("try", (LET,), "e", (("set", "x", A),)),), (0, 3, 0), "set")
        self.refused((do(("fn", ("y",), (("set", "x", A),))),), (0, 1, 2, 0), "set")
        self.refused((do(("fn", ("x",), ())), ("set", "x", A)), (1,), "set")
        self.refused((("block", (("let", (("f", ("fn", ("a",), (("set", "a", A),))),)), ("set", "a", A))),), (0, 1, 1), "set")
        self.holds((LET, ("set", "x", A)))
        self.holds((("set", "x", A), LET))
        self.holds((("block", (("set", "x", A),)), LET))
        self.holds((do(("fn", ("x",), (("set", "x", A),))),))
        self.holds((("try", (), "e", (("set", "e", A),)),))
        self.holds((("if", A, ("let", (("x", ("fn", (), (("set", "x", A),))),)), None),))

    def test_else(self):
        short = ("if", A, do(A), None)
        for s in (short, ("if", A, do(A), short), ("while", A, short), ("while", A, ("while", A, short)),
                  ("if", A, do(A), ("while", A, short)), ("if", A, do(A), ("if", A, do(A), short))):
            self.refused((("if", B, s, do(B)),), (0,), "else")
            self.refused((do(A), ("block", (("if", B, s, ("block", ())),))), (1, 1, 0), "else")
            self.holds((("if", B, s, None),))
            self.holds((("if", B, do(B), s),))
            self.holds((("if", B, ("block", (s,)), do(B)),))
            self.holds((("if", B, ("try", (s,), "x", (s,)), do(B)),))
            self.holds((("if", B, do(("fn", (), (s,))), do(B)),))
        self.holds((("if", B, ("if", A, do(A), do(A)), do(B)),))
        self.holds((("if", B, ("while", A, do(A)), do(B)),))
        self.holds((("if", B, ("while", A, ("if", A, do(A), do(A))), do(B)),))

    def test_an_outer_if_goes_ahead(self):
        short = ("if", A, do(A), None)
        twice = ("if", A, ("if", A, short, do(A)), do(A))
        self.refused((twice,), (0, 2), "else")
        self.refused((("if", A, ("if", A, short, short), do(A)),), (0,), "else")

    def test_the_least_path_goes_first(self):
        self.refused((("set", "x", A), ("return", A)), (0,), "set")
        self.refused((("return", A), ("set", "x", A)), (0,), "return")
        self.refused((LET, LET, ("return", A)), (1, 1, 0, 0), "twice")
        self.refused((LET, ("return", A), LET), (1,), "return")
        short = ("if", A, ("return", A), None)
        self.refused((("if", A, short, do(A)),), (0,), "else")
        self.refused((("if", A, ("block", (short,)), ("set", "x", A)),), (0, 2, 1, 0, 2), "return")
        self.refused((("let", (("x", ("fn", (), (("set", "y", A),))), ("x", A))),), (0, 1, 0, 1, 2, 0), "set")


class Great(MustTree):

    def test_parts(self):
        self.holds((do(A),) * 150)
        self.refused((do(A),) * 150 + (("block", ()),), (), "great")
        self.refused((do(A),) * 149 + (do(("neg", A)),), (), "great")
        self.holds((do(A),) * 148 + (do(("neg", A)), ("block", ())))

    def test_depth(self):
        self.holds((do(nested(15)),))
        self.refused((do(nested(16)),), (), "great")
        tree = (do(A),)
        for _ in range(14):
            tree = (("block", tree),)
        self.holds(tree)
        self.refused((("block", tree),), (), "great")

    def test_depth_counts_parts_alone(self):
        inner = A
        for _ in range(7):
            inner = ("fn", (), (("return", inner),))
        self.holds((do(inner),))
        self.refused((do(("neg", inner)),), (), "great")

    def test_bindings(self):
        many = tuple("v" + chr(97 + n // 26) + chr(97 + n % 26) for n in range(101))
        self.holds((do(("fn", many[:100], ())),))
        self.refused((do(("fn", many, ())),), (), "great")
        self.refused((do(("fn", many[:100], ())), LET), (), "great")
        self.refused((do(("fn", many[:100], ())), ("try", (), "x", ())), (), "great")
        self.holds((do(("fn", many[:98], ())), LET, ("try", (), "x", ())))
        lets = tuple(("let", ((x, num(1)),)) for x in many)
        self.holds(lets[:100])
        self.refused(lets, (), "great")

    def test_other_faults_go_ahead(self):
        self.refused((do(nested(40)), ("return", A)), (1,), "return")
        self.refused((do(A),) * 200 + (None,), (200,), "kind")
        self.refused((do(nested(50, inner=num(-1))),), (0, 1) + (1,) * 50, "number")

    def test_far_beyond(self):
        self.refused((do(nested(60)),), (), "great")
        self.refused((do(nested(3000)),), (), "great")
        self.refused((do(A),) * 400, (), "great")

    def test_deep_things(self):
        thing = None
        for _ in range(60):
            thing = (thing,)
        self.refused(thing, (0,), "kind")
        rows = []
        for _ in range(59):
            rows = [rows]
        self.refused((rows,), (0,), "kind")
        self.refused((do(("fn", (thing, thing), ())),), (0, 1, 1, 0), "name")

    def test_told_again(self):
        for _ in range(2):
            self.refused((do(None),), (0, 1), "kind")
            self.holds((do(A),))


if __name__ == "__main__":
    unittest.main()
