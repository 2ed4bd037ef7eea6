"""Programs that do each kind of part, and each way in which rooms, calls, failures and steps meet."""

COUNT = "let f = fn (n) n == 1 ? 5 : f(n - 1); "
TELL = "let t = fn (n) { out n; return n }; "

PARTS = (
    "", "1", "out 7", "out 999999999999999999; out 0", "out k", "k; out 1", "out zz", "let k = 3; out k", "out k; let k = 1",
    "out r.a; r.b = 5; out r.a + r.b", "out r.zz", "out 1.a", "out (fn () 1).a", "out [a: 1, b: 2].b", "out [a: [b: 3]].a.b",
    "out (fn () 7)()", "out (fn (x, y) x - y)(5, 3)", "out fn () {}()", "out fn () { return 4; out 5 }()",
    TELL + "out fn (x, y, z) { let w = x - y; return w - z }(t(1), t(2), t(3))", "1()", "[]()", "fn () {}(1)", "fn (x) {}()",
    TELL + "1(t(2))", TELL + "(fn () 1)(t(2))", TELL + "zz(t(2))", TELL + "(fn () 1)(t(1), zz, t(2))",
    TELL + "let x = [b: t(1), a: t(2)]; out x.a; out x.b", TELL + "[a: t(1), b: zz, c: t(2)]",
    "out -5; out -(-5); out -0; out -k", "-[]", "-fn () {}", "out !0; out !k; out ![]; out !fn () {}; out !!5",
    "out 7 + 5; out 7 - 9; out 7 * -3; out -7 / 2; out 7 / -2; out -7 ~ 2; out 7 ~ -2",
    "out 1 < 2; out 2 > 2; out 3 <= 2; out 2 >= 2; out 1 == 1; out 1 != 1", "1 / 0", "0 ~ 0", "[] + 1", "1 < []",
    "out 1e15 * 1e15; 1e15 * 1e15 + 1", "out -1e15 * 1e15; -1e15 * 1e15 - 1", TELL + "t(1) + t(2); zz - t(3)",
    "let x = [], y = x; out x == y; out x == []; out x != 0; out 0 == x; let g = fn () 1; out g == g; out g == x; out g != (fn () 1)",
    "out 0 && zz; out 2 && 5; out 1 || zz; out 0 || 5; out ([] && [a: 4]).a; out (fn () 8 || 1) == 0", "1 && zz", "0 || zz",
    TELL + "t(0) && t(1); t(2) && t(3); t(0) || t(4); t(5) || t(6); t(1) ? t(2) : t(3); t(0) ? t(4) : t(5)",
    "out 1 ? 2 : zz; out 0 ? zz : 3; out [] ? 2 : 3; out fn () {} ? 2 : 3",
    "let x = 1, y = x + 1; out y", "let x = x", "let x = y, y = 1", "let x = 1; x = x + 1; out x", "x = 1; let x = 2",
    TELL + "x = t(4); let x = 2", "let x = [a: 1]; x.a = 2; x.b = 3; out x.a + x.b", TELL + "(1).a = t(2)", "(1).a = zz",
    TELL + "let x = []; (t(1) ? x : x).a = t(2); out x.a", "if (k) out 1; if (0) out 2; if (0) out 3; else out 4",
    "if ([]) out 5; else out 6; if (zz) out 7", "let i = 3; while (i) { out i; i = i - 1 }", "while (zz) {}", "while (1) out 1",
    "let i = 3; while (12 / i) { out i; i = i - 1 }", "fail 3", "fail -7 * 2", "fail []", "fail zz", "out []", "out fn () 1",
    "{ out 1; { out 2 } } out 3", "{}", "{ { fail 1 } }",
)

ROOMS = (
    "let x = 1; { let x = 2; { let y = x; x = 3; out y; out x } out x } out x",
    "let x = 1; { out x; let x = 2 }", "let x = 1; { x = 5; let x = 2 }", "let x = 1; { let y = 2; { let z = 3; x = y + z } } out x",
    "let f = fn () x; let x = 1; out f()", "let f = fn () x; f(); let x = 1", "let f = fn () { x = 1 }; f(); let x = 0",
    "let add = fn (x) fn (y) fn () x + y; out add(1)(2)(); let one = add(1); out one(5)() + one(7)()",
    "let make = fn () { let n = 0; return fn () { n = n + 1; return n } }; let a = make(), b = make();"
    "out a(); out a(); out b(); out a()",
    "let o = [], i = 0; while (i < 2) { let n = i; if (i) o.b = fn () { n = n + 1; return n };"
    "else o.a = fn () { n = n + 1; return n }; i = i + 1 } out o.a(); out o.a(); out o.b(); out o.a()",
    "let i = 0; while (i < 2) { i = i + 1; if (i == 2) out x; let x = 1 }",
    "let i = 0; while (i < 3) let j = i, z = fn () { i = i + j + 1 }, w = z(); out i",
    "if (1) let x = 4, y = x + 1, f = fn () { x = x + y; out x }, z = f(); else let x = 1; out 1",
    "if (0) let x = 4; else let x = 5, y = x / 0", "let x = 1; if (1) let x = x",
    "let x = 1; let f = fn (x) { x = x + 1; let y = x; { let x = y; x = x + 1; out x } return x }; out f(5); out x",
    "let f = fn (n) { let m = n; if (n) f(n - 1); out m }; f(2)", "let f = fn () { { let x = 1; return x + 1 } }; out f() + f()",
    "let f = fn () { while (1) { let x = 3; if (x) { let y = x; return y } } }; out f()",
    "let g = fn () fn () fn () k; out g()()() + g()()()", "{ let a = 1; fn () { { let b = a; out b } }() }",
)

FAILURES = (
    "try { out 1; fail 2; out 3 } catch (x) { out x; out 4 } out 5", "try { out 1 } catch (x) { out 2 } out 3",
    "try { try { fail 1 } catch (x) { out x; fail x + 1 } out 9 } catch (x) { out x }", "try { fail 1 } catch (x) { out x; fail 8 }",
    "try {} catch (x) { fail 8 } fail 9", "try { { { (fn () { fail 6 })() } } } catch (x) { out x }",
    "let x = 1; try { let y = 2; x = y; { let z = 3; fail x + z } } catch (y) { out x; out y; x = 7 } out x",
    "let i = 0; while (i < 3) { try { i = i + 1; while (1) { if (i == 2) fail 5; let z = 1; z.a } } catch (e) { out e } }",
    "let f = fn (n) { if (n == 0) fail 3; let m = n; out 1 + f(n - 1) + m }; try { out 9 + f(3) } catch (e) { out e } out 1",
    "out 1 + (fn () { try { return 2 + zz } catch (e) { return 10 + e } })() + 100",
    "let f = fn () { try { return 1 } catch (x) { return 2 } return 3 }; try { out f(); fail 4 } catch (x) { out x }",
    "let f = fn () { try { try { return 4 } catch (x) { out 1 } } catch (x) { out 2 } }; try { out f(); zz } catch (x) { out x } zz",
    "let f = fn () { while (1) { try { { let x = 5; return x } } catch (x) {} } }; out f(); fail 1",
    "let f = fn () { try { fail 1 } catch (x) { return x + 1 } return 3 }; out f()",
    "let f = fn () { try { return zz } catch (x) { out x } return 6 }; out f()",
    "try { fail 1 } catch (e) { e = e + 1; let g = fn () { e = e + 1; return e }; out g(); out e; out h; let h = 1 }",
    "let o = [], i = 0; while (i < 2) { try { fail i } catch (e) { if (i) o.b = fn () e; else o.a = fn () e } i = i + 1 }"
    "out o.a(); out o.b()",
    "try { let x = 1, y = zz; } catch (e) { out e } let x = 2; out x", "try { let x = 5; fail x } catch (y) { let x = 6; out y; out x }",
    "let r = []; try { r.a = 1; r.b = [].c } catch (x) { out r.a; out x }",
    "let f = fn (g) { try { return g() } catch (e) { return 0 - e } }; out f(fn () f(fn () zz + 1)); out f(fn () { fail 9 })",
    "try { try { fail 1 } catch (x) {} fail 2 } catch (x) { out x } try { fail 3 } catch (x) { out x } fail 4",
    "let f = fn () { fail 1 }; let i = 0; while (i < 20) { try { f() } catch (x) { i = i + x } } out i",
)

CALLS = (
    COUNT + "out f(12)", COUNT + "out f(13)", COUNT + "f(1); f(12); f(3); out f(12); out f(13)",
    "let f = fn (n) { out n; return f(n + 1) }; f(1)", COUNT + "try { f(13) } catch (x) { out x } out f(12)",
    "let f = fn (n) { try { return n == 1 ? 5 : f(n - 1) } catch (x) { out n; return 10 + x } }; out f(13)",
    "let f = fn (n) { if (n == 1) fail 3; f(n - 1) }; let g = fn (n) { try { f(n) } catch (x) { out x; f(12) } };"
    "try { g(11) } catch (x) { out x }",
    "let f = fn (n) { try { f(n + 1) } catch (x) { fail n } }; f(1)", "let f = fn (x) x + 1; out " + "f(" * 13 + "0" + ")" * 13,
    "let f = fn () 1; " + "out f(); " * 15, "let f = fn (n) n == 1 ? g(1, 2) : f(n - 1); let g = fn () 1; f(12)",
    "let f = fn (n) n == 1 ? 1() : f(n - 1); f(12)", "let f = fn (n) n < 2 ? n : f(n - 1) + f(n - 2); out f(10)",
    "let f = fn () 0; while (1) f()", "try { while (1) {} } catch (x) { out x }", "let f = fn () { while (1) out 1 }; f()",
    "let i = 0; while (i < 1999) i = i + 1", "let i = 0; while (i < 2000) i = i + 1", "let f = fn () { fail 1 }; f()",
)

PROGRAMS = PARTS + ROOMS + FAILURES + CALLS
INS = {"k": 4, "r": {"a": 1}, "unused": 9, "s": {}}
