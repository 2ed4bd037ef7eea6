"""[15], [16]: what each part does."""

import unittest

from leanscript.reading import read
from leanscript.teller import run

TELL = "let t = fn (n) { out n; return n }; "


class Teller(unittest.TestCase):

    def outs(self, text, *wanted, **ins):
        """That a run is done and tells these numbers."""
        told = run(read(text), ins)
        self.assertEqual((told[:2], told[2]), (("done", 0), list(wanted)), text)

    def fails(self, text, number, *wanted, **ins):
        """That a run fails with a number and tells these ahead of that, and that a try catches it."""
        told = run(read(text), ins)
        self.assertEqual((told[:2], told[2]), (("failed", number), list(wanted)), text)
        caught = run(read("try {" + text + "} catch (caught) { out caught }"), ins)
        self.assertEqual((caught[:2], caught[2]), (("done", 0), [*wanted, number]), text)


class Expressions(Teller):

    def test_num(self):
        self.outs("out 0; out 12e3; out 999999999999999999", 0, 12000, 10 ** 18 - 1)

    def test_name(self):
        self.outs("let x = 1; out x", 1)
        self.fails("out x", -1)
        self.fails("out x; let x = 1", -1, x=5)
        self.fails("let x = x", -1, x=5)
        self.fails("let x = y, y = 1", -1)
        self.outs("let x = 1, y = x + 1; out y", 2)
        self.fails("let f = fn () x; f(); let x = 1", -1)
        self.outs("let f = fn () x; let x = 1; out f()", 1)
        self.fails("let x = 1; { out x; let x = 2 }", -1)
        self.fails("let i = 0; while (i < 2) { i = i + 1; if (i == 2) out x; let x = 1 }", -1)
        self.fails("if (0) let x = 1; out x", -1)

    def test_get(self):
        self.outs("out [a: 1, b: 2].b", 2)
        self.outs("let x = [a: [b: 3]]; out x.a.b", 3)
        self.fails("1.a", -2)
        self.fails("(fn () 1).a", -2)
        self.fails("[a: 1].b", -3)
        self.fails("[].a", -3)
        self.fails("x.a", -1)

    def test_call(self):
        self.outs("out (fn () 7)()", 7)
        self.outs("out (fn (x, y) x - y)(5, 3)", 2)
        self.outs("out fn () {}()", 0)
        self.outs("out fn () { return 4; out 5 }()", 4)
        self.outs("out fn (x) { if (x) return 1; }(0)", 0)
        self.outs("out fn (x) { out x }(3)", 3, 0)
        self.fails("1()", -2)
        self.fails("[]()", -2)
        self.fails("fn () {}(1)", -4)
        self.fails("fn (x) {}()", -4)
        self.fails("fn (x, y) {}(1)", -4)
        self.fails("(fn (x) x)(1, 2)", -4)
        self.fails("(fn () [])().a", -3)

    def test_the_order_in_a_call(self):
        self.outs(TELL + "(t(1) ? fn (a, b) t(4) : 0)(t(2), t(3))", 1, 2, 3, 4)
        self.fails(TELL + "1(t(2))", -2, 2)
        self.fails(TELL + "(fn () 1)(t(2))", -4, 2)
        self.fails(TELL + "x(t(2))", -1)
        self.fails(TELL + "1(x)", -1)
        self.fails(TELL + "(fn () 1)(t(1), x, t(2))", -1, 1)
        self.fails("let f = fn (n) n < 2 ? 1() : f(n - 1); f(12)", -2)

    def test_twelve_calls(self):
        count = "let f = fn (n) n == 1 ? 5 : f(n - 1); "
        self.outs(count + "out f(12)", 5)
        self.fails(count + "out f(13)", -5)
        self.fails(count + "f(1); f(12); f(3); out f(12); out f(13)", -5, 5)
        self.fails("let f = fn (n) { out n; return f(n + 1) }; f(1)", -5, *range(1, 13))
        self.outs("let f = fn () 1; " + "out f(); " * 20, *[1] * 20)
        self.outs("let f = fn (x) x + 1; out " + "f(" * 13 + "0" + ")" * 13, 13)
        self.fails("let f = fn (n) n == 1 ? g(1, 2) : f(n - 1); let g = fn () 1; f(12)", -4)
        self.fails("let f = fn (n) n == 1 ? 1() : f(n - 1); f(12)", -2)

    def test_calls_are_left_by_returns_and_failures(self):
        self.outs("let f = fn (n) { if (n == 1) return 5; return f(n - 1) }; out f(12); out f(12)", 5, 5)
        self.outs("let f = fn (n) n == 1 ? 5 : f(n - 1); try { f(13) } catch (x) { out x } out f(12)", -5, 5)
        self.outs("let f = fn (n) { try { return n == 1 ? 5 : f(n - 1) } catch (x) { out n; return 10 + x } }; out f(13)", 2, 5)
        self.outs("let f = fn (n) { if (n == 1) fail 3; f(n - 1) }; let g = fn (n) { try { f(n) } catch (x) { out x; f(12) } };"
                  "try { g(11) } catch (x) { out x }", 3, -5)
        self.fails("let f = fn (n) { try { f(n + 1) } catch (x) { fail n } }; f(1)", 1)

    def test_no_step_is_made_by_the_thirteenth(self):
        self.assertEqual(run(read("let f = fn (n) n == 1 ? 5 : f(n - 1); f(13)"), {}), ("failed", -5, [], 12))

    def test_rec(self):
        self.outs(TELL + "let x = [b: t(1), a: t(2)]; out x.a; out x.b", 1, 2, 2, 1)
        self.fails(TELL + "[a: t(1), b: x, c: t(2)]", -1, 1)
        self.outs("let f = fn () [a: 1]; let x = f(), y = f(); x.a = 2; out y.a; out x == y", 1, 0)

    def test_fn(self):
        self.outs("let add = fn (x) fn (y) x + y; let one = add(1), ten = add(10); out one(2); out ten(2); out one(3)", 3, 12, 4)
        self.outs("let make = fn () { let n = 0; return fn () { n = n + 1; return n } };"
                  "let a = make(), b = make(); out a(); out a(); out b(); out a()", 1, 2, 1, 3)
        self.outs("let x = 1; let f = fn () x; { let x = 2; out f() } x = 3; out f()", 1, 3)

    def test_neg_and_not(self):
        self.outs("out -5; out -(-5); out -0; out --7", -5, 5, 0, 7)
        self.outs("out !0; out !1; out !-1; out ![]; out !(fn () 1); out !!5", 1, 0, 0, 0, 0, 1)
        self.fails("-[]", -2)
        self.fails("-(fn () 1)", -2)
        self.fails("!x", -1)
        self.outs("out -a; out -b", -(10 ** 30 - 1), 10 ** 30 - 1, a=10 ** 30 - 1, b=1 - 10 ** 30)

    def test_the_order_of_two(self):
        for sign in ("+", "-", "*", "/", "~", "<", ">", "<=", ">=", "==", "!="):
            self.fails(TELL + "t(1)" + sign + "t(2); x" + sign + "t(3)", -1, 1, 2)
            self.fails(TELL + "t(1)" + sign + "x", -1, 1)
        for sign in ("+", "-", "*", "/", "~", "<", ">", "<=", ">="):
            self.fails(TELL + "[]" + sign + "t(1)", -2, 1)
            self.fails("1" + sign + "[]", -2)
            self.fails("[]" + sign + "1", -2)
            self.fails("(fn () 1)" + sign + "1", -2)
            self.fails("[]" + sign + "[]", -2)
            self.fails("[]" + sign + "x", -1)
            self.fails("[]" + sign + "0", -2)
            self.fails("0" + sign + "[]", -2)

    def test_two_of_numbers(self):
        self.outs("out 7 + 5; out 7 - 9; out 7 * -3", 12, -2, -21)
        self.outs("out 1 < 2; out 2 < 2; out 3 < 2", 1, 0, 0)
        self.outs("out 1 > 2; out 2 > 2; out 3 > 2", 0, 0, 1)
        self.outs("out 1 <= 2; out 2 <= 2; out 3 <= 2", 1, 1, 0)
        self.outs("out 1 >= 2; out 2 >= 2; out 3 >= 2", 0, 1, 1)
        self.outs("out 1 == 1; out 1 == 2; out 1 != 1; out 1 != 2", 1, 0, 0, 1)

    def test_quotients_and_rests(self):
        self.outs("out 7 / 2; out -7 / 2; out 7 / -2; out -7 / -2", 3, -4, -4, 3)
        self.outs("out 7 ~ 2; out -7 ~ 2; out 7 ~ -2; out -7 ~ -2", 1, 1, -1, -1)
        self.outs("out 6 / 3; out -6 / 3; out 6 ~ 3; out -6 ~ 3; out 0 / 5; out 0 ~ -5", 2, -2, 0, 0, 0, 0)
        self.fails("1 / 0", -6)
        self.fails("0 ~ 0", -6)
        self.fails("-5 / (1 - 1)", -6)

    def test_the_bound(self):
        self.outs("out 1e15 * 1e15; out 1e15 * -1e15", 10 ** 30, -10 ** 30)
        self.fails("1e15 * 1e15 + 1", -7)
        self.fails("-1e15 * 1e15 - 1", -7)
        self.fails("1e16 * 1e15", -7)
        self.fails("1e16 * -1e15", -7)
        self.outs("out 1e15 * 1e15 - 1; out 1e15 * 1e15 + 0; out 1e15 * 1e15 / 1e15", 10 ** 30 - 1, 10 ** 30, 10 ** 15)
        self.outs("out a + 1; out b - 1", 10 ** 30, -10 ** 30, a=10 ** 30 - 1, b=1 - 10 ** 30)
        self.fails("a + 2", -7, a=10 ** 30 - 1)
        self.fails("a * a", -7, a=10 ** 30 - 1)
        self.outs("out -(1e15 * 1e15); out a < 1e15 * 1e15", -10 ** 30, 1, a=10 ** 30 - 1)

    def test_same_and_unlike(self):
        self.outs("let r = [], s = r; out r == r; out r == s; out r == []; out [] == []; out r != s; out r != []", 1, 1, 0, 0, 0, 1)
        self.outs("let f = fn () 1, g = f; out f == f; out f == g; out f == fn () {}; out (fn () 1) == (fn () 1)", 1, 1, 0, 0)
        self.outs("let r = [a: 0], f = fn () 0; out r == f; out r != f; out 0 == r; out r == 0; out f == 0; out 0 != f; out 1 == r",
                  0, 1, 0, 0, 0, 1, 0)
        self.outs("let m = fn () fn () 1; out m() == m(); out [a: 1] == [a: 1]", 0, 0)
        self.outs("let r = [a: 1], s = [a: r]; out s.a == r; out s.a != r", 1, 0)

    def test_and_or(self):
        self.outs("out 0 && 5; out 2 && 5; out 2 && 0; out 0 || 5; out 2 || 5; out 0 || 0", 0, 5, 0, 5, 2, 0)
        self.outs(TELL + "t(0) && t(1); t(2) && t(3); t(0) || t(4); t(5) || t(6)", 0, 2, 3, 0, 4, 5)
        self.outs("out 0 && x; out 1 || x", 0, 1)
        self.fails("1 && x", -1)
        self.fails("0 || x", -1)
        self.fails("x && 1", -1)
        self.outs("out ([] && [a: 4]).a; out ([b: 5] || 1).b; out ((fn () 1) && 6); out ((fn () 8) || 1)()", 4, 5, 6, 8)

    def test_pick(self):
        self.outs("out 1 ? 2 : 3; out 0 ? 2 : 3; out [] ? 2 : 3; out fn () {} ? 2 : 3; out -1 ? 2 : 3", 2, 3, 2, 2, 2)
        self.outs(TELL + "t(1) ? t(2) : t(3); t(0) ? t(4) : t(5)", 1, 2, 0, 5)
        self.outs("out 1 ? 2 : x; out 0 ? x : 3", 2, 3)
        self.fails("x ? 1 : 2", -1)


class Statements(Teller):

    def test_let(self):
        self.outs(TELL + "let x = t(1), y = t(x + 1); out y", 1, 2, 2)
        self.fails(TELL + "let x = t(1), y = z, w = t(2)", -1, 1)
        self.outs("try { let x = 1, y = z; } catch (e) { out e } let x = 2; out x", -1, 2)
        self.outs("if (1) let x = 4, y = x + 1, f = fn () { x = x + y; out x }; out 1", 1)
        self.outs("let i = 0; while (i < 2) let f = fn () { i = i + 1 }, z = f(); out i", 2)

    def test_rooms_are_new_each_time(self):
        self.outs("let fs = [], i = 0; while (i < 2) { let n = i; if (i) fs.b = fn () { n = n + 1; return n };"
                  "else fs.a = fn () { n = n + 1; return n }; i = i + 1 } out fs.a(); out fs.a(); out fs.b(); out fs.a()", 1, 2, 2, 3)
        self.outs("let f = fn (n) { let m = n; if (n) f(n - 1); out m }; f(2)", 0, 1, 2)
        self.outs("let r = [], i = 0; while (i < 2) { try { let m = i; if (i) r.b = fn () m; else r.a = fn () m }"
                  "catch (e) {} i = i + 1 } out r.a(); out r.b()", 0, 1)
        self.outs("let r = [], i = 0; while (i < 2) { try { fail i } catch (e) { if (i) r.b = fn () e; else r.a = fn () e }"
                  "i = i + 1 } out r.a(); out r.b()", 0, 1)
        self.outs("let r = [], i = 0, s = fn (f) { if (i) r.b = f; else r.a = f; i = i + 1 };"
                  "while (i < 2) let n = i, z = s(fn () n); out r.a(); out r.b()", 0, 1)

    def test_set(self):
        self.outs("let x = 1; x = x + 1; out x; { x = 5 } out x", 2, 5)
        self.fails("x = 1; let x = 2", -1)
        self.fails(TELL + "x = t(4); let x = 2", -1, 4)
        self.fails("{ x = 1; let x = 2 } ", -1)
        self.fails("let x = 1; { x = 2; let x = 3 }", -1)
        self.fails("x = y; let x = 1", -1)
        self.fails("x = 1(); let x = 1", -2)
        self.outs("let x = 1; let f = fn (x) { x = 2; return x }; out f(5); out x", 2, 1)
        self.outs("try { fail 1 } catch (e) { e = e + 1; out e }", 2)
        self.fails("let f = fn () { x = 1 }; f(); let x = 0", -1)

    def test_put(self):
        self.outs("let r = [a: 1]; r.a = 2; r.b = 3; out r.a; out r.b", 2, 3)
        self.outs("let r = [a: [b: 1]], s = r; s.a.b = 2; out r.a.b; r.r = r; out r.r.r.a.b", 2, 2)
        self.outs(TELL + "let r = []; (t(1) ? r : r).a = t(2); out r.a", 1, 2, 2)
        self.fails(TELL + "(1).a = t(2)", -2, 2)
        self.fails("(fn () 1).a = 2", -2)
        self.fails("(1).a = x", -1)
        self.fails("x.a = 1()", -1)
        self.outs("[].a = 1; out 3", 3)

    def test_do(self):
        self.outs("1; [a: 2]; fn () x; out 1", 1)
        self.fails("x; out 1", -1)

    def test_if(self):
        self.outs("if (1) out 1; if (0) out 2; if (0) out 3; else out 4; if ([]) out 5; else out 6", 1, 4, 5)
        self.outs(TELL + "if (t(1)) t(2); else t(3)", 1, 2)
        self.fails("if (x) out 1; else out 2", -1)

    def test_while(self):
        self.outs("let i = 3; while (i) { out i; i = i - 1 }", 3, 2, 1)
        self.outs("while (0) out 1; out 2", 2)
        self.outs("let f = fn () { let i = 0; while (1) { i = i + 1; if (i == 4) return i } }; out f()", 4)
        self.fails("let i = 3; while (12 / i) { out i; i = i - 1 }", -6, 3, 2, 1)
        self.outs("let r = [n: 1]; while (r) { if (r.n > 2) r = 0; else { out r.n; r.n = r.n + 1 } } out r", 1, 2, 0)

    def test_fail(self):
        self.fails("fail 3; out 1", 3)
        self.fails("fail -7 * 2", -14)
        self.fails("fail []", -2)
        self.fails("fail fn () 1", -2)
        self.fails("fail x", -1)

    def test_out(self):
        self.outs("out 1 - 2; out 0", -1, 0)
        self.fails("out []", -2)
        self.fails("out 1; out fn () 1", -2, 1)

    def test_try(self):
        self.outs("try { out 1; fail 2; out 3 } catch (x) { out x; out 4 } out 5", 1, 2, 4, 5)
        self.outs("try { out 1 } catch (x) { out 2 } out 3", 1, 3)
        self.outs("try { try { fail 1 } catch (x) { out x; fail x + 1 } out 9 } catch (x) { out x }", 1, 2)
        self.fails("try { fail 1 } catch (x) { out x; fail 8; out 9 }", 8, 1)
        self.fails("try {} catch (x) { fail 8 } fail 9", 9)
        self.outs("try { { { (fn () { fail 6 })() } } } catch (x) { out x }", 6)
        self.outs("let x = 1; try { x = 2; fail 0 } catch (x) { out x; x = 7 } out x", 0, 2)
        self.outs("let r = []; try { r.a = 1; r.b = [].c } catch (x) { out r.a; out x }", 1, -3)
        self.outs("try { let x = 5; fail x } catch (y) { let x = 6; out y; out x }", 5, 6)
        self.fails("let x = 1; try { fail 1 } catch (y) { out x; let x = 6 }", -1)
        self.fails("try { fail 1 } catch (x) { out y; let y = x }", -1)

    def test_returns_go_through_tries(self):
        self.outs("let f = fn () { try { return 1 } catch (x) { return 2 } return 3 }; out f()", 1)
        self.outs("let f = fn () { try { fail 1 } catch (x) { return x + 1 } return 3 }; out f()", 2)
        self.outs("let f = fn () { try { try { return 4 } catch (x) { out 1 } } catch (x) { out 2 } }; out f()", 4)
        self.outs("let f = fn () { while (1) { if (1) { try { { return 5 } } catch (x) {} } } }; out f()", 5)
        self.outs("let f = fn () { try { return x } catch (x) { out x } return 6 }; out f()", -1, 6)

    def test_block_and_return(self):
        self.outs("{ out 1; { out 2 } } out 3", 1, 2, 3)
        self.outs("let f = fn (x) { { { return x } } out 9 }; out f(3) + f(4)", 7)
        self.outs("let f = fn () { let g = fn () { return 1 }; g(); return 2 }; out f()", 2)
        self.outs("let f = fn () { return [a: 5] }; out f().a", 5)
        self.fails("fn () { return x }()", -1)

    def test_an_fn_has_one_room_with_its_xs(self):
        self.outs("let f = fn (x) { let y = x; x = x + 1; return fn () x * 10 + y }; let g = f(1), h = f(5); out g(); out h(); out g()",
                  21, 65, 21)
        self.outs("let f = fn (x) x, x = 3; out f(4); out x", 4, 3)

    def test_long_programs(self):
        self.outs("let fib = fn (n) n < 2 ? n : fib(n - 1) + fib(n - 2); out fib(10)", 55)
        self.outs("let list = 0, i = 0; while (i < 5) { list = [head: i, tail: list]; i = i + 1 }"
                  "while (list != 0) { out list.head; list = list.tail }", 4, 3, 2, 1, 0)

    def test_as_deep_as_can_be(self):
        deep = "[a: " * 10 + "f()" + "]" * 10
        self.outs("let n = 12, f = fn () { n = n - 1; return n ? " + deep + " : 0 }; f(); out n", 0)
        self.outs("let n = 13, f = fn () { n = n - 1; return n ? " + deep + " : 0 }; try { f() } catch (x) { out x }", -5)
        self.outs("let n = 12, f = fn () { n = n - 1; return n ? " + "-" * 10 + "f() : 3 }; out f()", 3)


if __name__ == "__main__":
    unittest.main()
