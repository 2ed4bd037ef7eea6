"""[17], [18]: the lines of trees, and what they lead to."""

import unittest

from helper import asked_again, do, live_trees, name, num, refusal, thing_at, trees_at_random
from leanscript.code import code, code_slots, led
from leanscript.errors import NoTree
from leanscript.naming import named
from leanscript.reading import read
from leanscript.rooms import bindings, outers, rooms
from leanscript.teller import run
from leanscript.trees import parts
from leanscript.words import is_name
from leanscript.worths import Failing
from leanscript import teller
from other_machine import WORDS, Fun, OtherMachine, Rec
from programs import INS, PROGRAMS

TREES = [read(text) for text in PROGRAMS] + live_trees(150) + trees_at_random(150)


def is_whole(thing):
    return type(thing) is int and thing >= 0


class Lines(unittest.TestCase):

    def has_kind(self, kind, thing, lines):
        if kind == "number":
            return is_whole(thing) and thing < 10 ** 18
        if kind == "many":
            return is_whole(thing)
        if kind == "line":
            return is_whole(thing) and thing <= len(lines)
        if kind == "sign":
            return thing in ("+", "-", "*", "/", "~", "<", ">", "<=", ">=", "==", "!=")
        if kind == "names":
            return isinstance(thing, (tuple, list)) and all(is_name(k) for k in thing) and len(set(thing)) == len(thing)
        return is_name(thing)

    def test_forms(self):
        used = set()
        for tree in TREES:
            lines = code(tree)
            self.assertIs(type(lines), list)
            for line in lines:
                self.assertIs(type(line), tuple)
                self.assertIn(line[0], WORDS)
                self.assertEqual(len(line), 1 + len(WORDS[line[0]]), line)
                for kind, thing in zip(WORDS[line[0]], line[1:]):
                    self.assertTrue(self.has_kind(kind, thing, lines), line)
                used.add(line[0])
        self.assertEqual(used, set(WORDS))

    def test_a_machine_by_the_words_alone_tells_what_run_tells(self):
        for tree in TREES:
            lines = code(tree)
            for ins in (INS, {"a": 2, "c": {"a": 7}, "longestnames": 1}):
                told = run(tree, ins)
                self.assertEqual(OtherMachine(lines, ins).told(), told)
                for most in sorted({0, max(0, told[3] - 1)}):
                    self.assertEqual(OtherMachine(lines, ins, most).told(), run(tree, ins, most=most))

    def test_the_programs_end_in_each_way(self):
        ends = [run(read(text), INS)[:2] for text in PROGRAMS]
        for end in (("done", 0), ("long", 0), *[("failed", number) for number in range(-7, 0)], ("failed", 8), ("failed", 1)):
            self.assertIn(end, ends)

    def test_nothing_is_left_on_the_stack(self):
        for tree in TREES:
            machine = OtherMachine(code(tree), INS)
            if machine.told()[0] == "done":
                self.assertEqual((machine.stack, machine.calls, machine.marks), ([], [], []))

    def test_again_and_by_name(self):
        for tree in TREES[:120]:
            kept = repr(tree)
            for call in (code, led, code_slots):
                asked_again(self, call, tree)
                self.assertEqual(call(tree=tree), call(tree))
            self.assertEqual(repr(tree), kept)

    def test_no_trees(self):
        for call in (code, led, code_slots):
            for thing, path, why in ((None, (), "kind"), ([], (), "kind"), ("", (), "kind"), ((do(num(True)),), (0, 1, 1), "number"),
                                     ((("set", "x", name("a")),), (0,), "set"), ((("return", num(1)),), (0,), "return"),
                                     ((do(num(1)),) * 151, (), "great")):
                error = refusal(self, NoTree, call, thing)
                self.assertEqual((error.path, error.why), (path, why))


class Led(unittest.TestCase):

    def test_each_line_stands_for_a_part_or_for_none(self):
        for tree in TREES:
            lines, paths, known = code(tree), led(tree), parts(tree)
            self.assertIs(type(paths), list)
            self.assertEqual(len(paths), len(lines))
            for path in paths:
                self.assertIs(type(path), tuple)
                self.assertTrue(path == () or path in known, path)

    def test_lines_stand_for_parts_of_their_kind(self):
        words = {"ins": "name", "take": "name", "give": "set", "get": "get", "put": "put", "rec": "rec", "neg": "neg", "not": "not",
                 "two": "two", "fn": "fn", "call": "call", "and": "and", "or": "or", "drop": "do", "try": "try", "tried": "try",
                 "fail": "fail", "out": "out", "step": "while"}
        for tree in TREES:
            for line, path in zip(code(tree), led(tree)):
                if line[0] in words:
                    part = thing_at(tree, path)
                    self.assertEqual(part[0], words[line[0]])
                    if line[0] in ("get", "put", "two"):
                        self.assertIn(line[1], part[1:])


class Slots(unittest.TestCase):

    def test_numbers(self):
        for tree in TREES:
            slots, known = code_slots(tree), parts(tree)
            self.assertIs(type(slots), list)
            self.assertEqual(len(slots), len(bindings(tree)))
            for path, numbers in rooms(tree):
                within = [slots[number] for number in numbers]
                self.assertTrue(all(is_whole(slot) for slot in within))
                self.assertEqual(len(set(within)), len(within))
                if path in known and thing_at(tree, path)[0] == "fn":
                    xs = thing_at(tree, path)[1]
                    self.assertEqual(within[:len(xs)], list(range(len(xs))))

    def test_functions_have_their_slots(self):
        for tree in TREES:
            many = {path: len(numbers) for path, numbers in rooms(tree)}
            for line, path in zip(code(tree), led(tree)):
                if line[0] == "fn":
                    self.assertEqual(line[2:], (len(thing_at(tree, path)[1]), many[path]))

    def test_outer_names_have_none(self):
        for tree in TREES:
            told = {line[1] for line in code(tree) if line[0] == "ins"}
            self.assertEqual(sorted(told), [x for x, _ in outers(tree)])

    def stands(self, text, *rows):
        """That a failure ends a run in rooms of the machine with these worths by names, from within; ... stands for a
        record or a function."""
        tree = read(text)
        machine = OtherMachine(code(tree), {})
        self.assertEqual(machine.told()[0], "failed", text)
        slots = dict(zip([x for x, _, _ in bindings(tree)], code_slots(tree)))
        room = machine.room
        for row in rows:
            self.assertEqual(len(room[0]), len(row), text)
            for x, worth in row.items():
                here = room[0][slots[x]]
                self.assertEqual(here if here is None or isinstance(here, int) else ..., worth, f"{text} {x}")
            room = room[1]
        self.assertEqual(room, ([], None), text)

    def test_where_a_failure_ends_a_run(self):
        self.stands("fail 1")
        self.stands("let a = 1, b = 2; fail 1; let c = 3", {"a": 1, "b": 2, "c": None})
        self.stands("let a = 1, b = zz, c = 3", {"a": 1, "b": None, "c": None})
        self.stands("let a = 1; { let b = 2; { { let c = 3; fail 1 } } }", {"c": 3}, {"b": 2}, {"a": 1})
        self.stands("let a = 1; { let b = 2; { let c = 3 } zz }", {"b": 2}, {"a": 1})
        self.stands("let a = 1; a = 5; { let b = 2; a = 6; b = [] } fail a", {"a": 6})
        self.stands("let a = fn (x, y) { let b = x + y; zz }; a(3, 4)", {"x": 3, "y": 4, "b": 7}, {"a": ...})
        self.stands("let a = fn (x) { let b = 1; { let c = 2; fail b } }; { let d = 3; a(d) }", {"c": 2}, {"x": 3, "b": 1}, {"a": ...})
        self.stands("let a = fn (x) fn (y) x / y; { let d = a(1); d(0) }", {"y": 0}, {"x": 1}, {"a": ...})
        self.stands("let a = fn () zz; a()", {}, {"a": ...})
        self.stands("let a = fn (x) 1; { let b = 2; a() }", {"b": 2}, {"a": ...})
        self.stands("let a = fn (x) 1; { let b = a(2); fail b }", {"b": 1}, {"a": ...})
        self.stands("try { let a = 1; fail 7 } catch (x) { let b = x, c = zz }", {"x": 7, "b": 7, "c": None})
        self.stands("let d = 1; try { let a = 1; { let b = 2; d = b; zz } } catch (x) { x = x - 1; { let c = x; c.k } }",
                    {"c": -2}, {"x": -2}, {"d": 2})
        self.stands("let d = 1; try { let a = 1 } catch (x) {} fail d", {"d": 1})
        self.stands("try { { let a = 1; fail 7 } } catch (x) {} let d = 1; fail d", {"d": 1})
        self.stands("let f = fn (n) { let m = n; if (n == 0) fail 1; f(n - 1) }; f(2)", {"n": 0, "m": 0}, {"f": ...})
        self.stands("let f = fn (n) { try { let m = n; fail m } catch (e) { e = e + 1 } n = n / 0 }; f(2)", {"n": 2}, {"f": ...})
        self.stands("let i = 0; while (i < 3) { let n = i; i = i + 1; if (n == 2) fail 1 }", {"n": 2}, {"i": 3})
        self.stands("let i = 0; while (12 / (2 - i)) { let n = i; i = i + 1 }", {"i": 2})
        self.stands("let i = 0; while (1) let n = i, z = 1 / (2 - n), s = fn () { i = i + 1 }, w = s()",
                    {"n": 2, "z": None, "s": None, "w": None}, {"i": 2})
        self.stands("let a = 1; if (a) let b = a, c = zz; else let d = 2", {"b": 1, "c": None}, {"a": 1})
        self.stands("let a = 1; if (0) let b = a; else let d = 2, e = zz", {"d": 2, "e": None}, {"a": 1})
        self.stands("let a = 1; if (zz) let b = a; else let d = 2", {"a": 1})

    def test_where_failures_end_runs_of_trees_at_random(self):
        ended = 0
        for tree in TREES:
            many = len(bindings(tree))
            tree = named(tree, ["z" + chr(97 + i // 26) + chr(97 + i % 26) + "z" for i in range(many)])
            machine = OtherMachine(code(tree), {})
            if machine.told()[0] == "failed":
                ended += 1
                self.assertEqual(machine_rows(tree, machine), teller_rows(tree))
        self.assertGreater(ended, 100)


def kind_of(worth):
    return worth if worth is None or isinstance(worth, int) else ("rec" if isinstance(worth, (Rec, teller.Record)) else "fn")


def machine_rows(tree, machine):
    """The rooms with bindings in which a machine stands, from within: dicts that lead slots to worths."""
    told = []
    room = machine.room
    while room is not None:
        told.append({at: kind_of(worth) for at, worth in enumerate(room[0])})
        room = room[1]
    return [row for row in told if row]


def teller_rows(tree):
    """The same by the teller, of a tree all bindings of which have unlike names."""
    slots = dict(zip([x for x, _, _ in bindings(tree)], code_slots(tree)))
    room = room_of_failure(tree)
    told = []
    while room is not None:
        told.append({slots[x]: kind_of(room.worths.get(x)) for x in room.names})
        room = room.around
    return [row for row in told if row]


def room_of_failure(tree):
    """The teller's room in which the failure came that ends a run."""
    first = {}

    def spy(call):
        def spied(play, part, room):
            try:
                return call(play, part, room)
            except Failing as failing:
                first.setdefault(id(failing), (failing, room))
                raise
        return spied

    kept = (teller.worth_of, teller.do_statement)
    teller.worth_of, teller.do_statement = spy(kept[0]), spy(kept[1])
    try:
        teller.do_list(teller.Play({}, 2000), tree, teller.list_room(tree, None))
    except Failing as failing:
        return first[id(failing)][1]
    finally:
        teller.worth_of, teller.do_statement = kept


if __name__ == "__main__":
    unittest.main()
