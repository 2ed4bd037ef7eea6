"""[33]: a desk, and its lines."""

import unittest

from helper import refusal
from leanscript.desk import LETTERS, Desk
from leanscript.errors import LeanError, NoCount, NoLetters, NoLine, NoMap, NoNaming, NoText, NoTree, NoTurning
from leanscript.goings import gone
from leanscript.leastnames import least_naming
from leanscript.maps import map_text
from leanscript.naming import cost, fair
from leanscript.reading import read
from leanscript.rooms import bindings
from leanscript.teller import run
from leanscript.tracing import Trace
from leanscript.turnings import turnings
from leanscript.writing import tight
from programs import PROGRAMS
from turnable import turnable_trees

TEXT = "let total = 0; let i = 0; while (!!(i < n)) { total = total + i; i = i + 1 } if (0) { let q = 1 } out total"
ALL = ("show", "size", "turnings", "gone", "names", "outers", "cost", "map", "run", "run n=3", "lead 0")


class Case(unittest.TestCase):

    def says(self, desk, line, answer):
        told = desk.say(line)
        self.assertIs(type(told), str)
        self.assertEqual(told, answer, line)

    def refused(self, desk, kind, *lines):
        """That some lines are refused, and change nothing."""
        ahead = [answer_of(desk, line) for line in ALL]
        for line in lines:
            refusal(self, kind, desk.say, line)
            self.assertEqual([answer_of(desk, one) for one in ALL], ahead, line)

    def desk(self, *lines, **more):
        desk = Desk(**more)
        for line in lines:
            self.says(desk, line, "ok")
        return desk


def answer_of(desk, line):
    try:
        return desk.say(line)
    except LeanError as error:
        return type(error)


class Lines(Case):

    def test_at_first(self):
        desk = Desk()
        for line, answer in (("show", "none"), ("size", "0"), ("turnings", "none"), ("gone", "none"), ("names", "none"), ("outers", "none"), ("cost", "0"),
                             ("run", "done 0 0"), ("map", ""), ("bare", "ok"), ("lean", "ok"), ("rename", "ok"), ("least", "ok")):
            self.says(desk, line, answer)
        self.refused(Desk(), NoMap, "lead 0")
        self.refused(Desk(), NoCount, "back")

    def test_text(self):
        desk = self.desk("text " + TEXT)
        self.says(desk, "show", tight(read(TEXT)))
        self.says(desk, "text  out  1 ; ", "ok")
        self.says(desk, "show", "out 1")
        self.says(desk, "lead 0", "1 7")
        self.says(desk, "text ", "ok")
        self.says(desk, "show", "none")
        self.says(desk, "text   ", "ok")
        self.says(desk, "show", "none")
        self.says(desk, "text text", "ok")
        self.says(desk, "show", "text")
        self.says(desk, "text bare", "ok")
        self.refused(desk, NoCount, "back")

    def test_texts_that_are_refused(self):
        desk = self.desk("text " + TEXT, "lean")
        self.refused(desk, NoText, "text B", "text out", "text out 1 2", "text  let")
        self.refused(desk, NoTree, "text return 1", "text x = 1", "text let x = 1, x = 2")
        self.assertEqual(refusal(self, NoText, desk.say, "text  a B").at, 3)

    def test_turn(self):
        desk = self.desk("text out 1 + 2 * 3; {} 4", "turn 0.1.3 reckon")
        self.says(desk, "show", "out 1+6;{}4")
        self.says(desk, "turn 1 gone", "ok")
        self.says(desk, "turn 0.1 reckon", "ok")
        self.says(desk, "show", "out 7;4")
        self.says(desk, "turn 1 gone", "ok")
        self.says(desk, "show", "out 7")
        for line in ("out 7;4", "out 1+6;4", "out 1+6;{}4", "out 1+2*3;{}4"):
            self.says(desk, "back", "ok")
            self.says(desk, "show", line)
        self.refused(desk, NoTurning, "turn 0 reckon", "turn 0.1.3 choose", "turn - gone", "turn - open", "turn 0 gone", "turn 9.9.9 lets", "turn 0.1.3.0 reckon",
                     "turn " + "9" * 30 + " test")

    def test_each_word(self):
        desk = self.desk("text out 1")
        for word in "reckon choose other double swap and join tail lets open give last test less carry gone".split():
            self.refused(desk, NoTurning, "turn 0 " + word)
        for word in ("behind", "still", "unreached", "empty", "never", "gones", "Reckon", "reckon,", "rename", "bare", "0"):
            self.refused(desk, NoLine, "turn 0 " + word)

    def test_rename(self):
        desk = self.desk("text let long = 1, other = k; out long", "rename a b")
        self.says(desk, "show", "let a=1,b=k;out a")
        self.refused(desk, NoNaming, "rename", "rename a", "rename a b c", "rename c c", "rename k a")
        self.refused(desk, NoLine, "rename a B", "rename a 1", "rename let b", "rename a abcdefghijklm", "rename a,b", "rename a b ", "rename  a b")
        self.says(desk, "rename a abcdefghijkl", "ok")
        self.says(desk, "names", "a abcdefghijkl")

    def test_bare_lean_back(self):
        desk = self.desk("text " + TEXT, "bare")
        self.says(desk, "show", "let total=0;let i=0;while(!!(i<n)){total=total+i;i=i+1}if(0){}out total")
        self.says(desk, "lean", "ok")
        self.says(desk, "show", "let total=0,i=0;while(i<n){total=total+i;i=i+1}out total")
        self.says(desk, "lean", "ok")
        # The bare, and four steps of lean.
        for _ in range(5):
            self.says(desk, "back", "ok")
        self.says(desk, "show", tight(read(TEXT)))
        self.refused(desk, NoCount, "back")

    def test_least(self):
        desk = self.desk("text " + TEXT, "least")
        tree = read(TEXT)
        self.says(desk, "cost", str(cost(tree, least_naming(tree, LETTERS)[0])))
        self.says(desk, "back", "ok")
        self.says(desk, "show", tight(tree))
        text = "let " + ", ".join("long" + x + " = k" for x in "abcdefgh") + "; out longh"
        desk = self.desk("text " + text, "least")
        self.says(desk, "names", " ".join(fair(read(text), LETTERS)))
        desk = self.desk("text " + text, "least", letters="xy")
        self.says(desk, "names", " ".join(fair(read(text), "xy")))
        desk = self.desk("text let long = 1", "least", letters="qp")
        self.says(desk, "show", "let q=1")

    def test_show_and_size(self):
        desk = self.desk("text out ( 1 )")
        self.says(desk, "show", "out 1")
        self.says(desk, "size", "5")
        desk = self.desk("text none")
        self.says(desk, "show", "none")
        self.says(desk, "size", "4")

    def test_turnings_and_gone(self):
        desk = self.desk("text " + TEXT)
        self.says(desk, "turnings", "0 lets, 2.1 double, 2.1.1 other, 3 choose, 3.2.1.0.1.0 carry")
        self.says(desk, "gone", "3.2.1.0.1.0 unreached")
        desk = self.desk("text fail 1; {}")
        self.says(desk, "gone", "1 behind, 1 empty")
        self.says(desk, "turnings", "1 open")
        desk = self.desk("text out k")
        self.says(desk, "gone", "none")
        self.says(desk, "turnings", "none")

    def test_names_outers_cost(self):
        desk = self.desk("text " + TEXT)
        self.says(desk, "names", "total i q")
        self.says(desk, "outers", "n")
        self.says(desk, "cost", "26")
        desk = self.desk("text out b + a.c; let a = d")
        self.says(desk, "names", "a")
        self.says(desk, "outers", "b d")
        self.says(desk, "cost", "2")
        desk = self.desk("text out 1")
        for line, answer in (("names", "none"), ("outers", "none"), ("cost", "0")):
            self.says(desk, line, answer)

    def test_run(self):
        desk = self.desk("text " + TEXT)
        self.says(desk, "run n=3", "done 0 4 3")
        self.says(desk, "run n=-3", "done 0 1 0")
        self.says(desk, "run", "failed -1 1")
        self.says(desk, "run n=0 m=5", "done 0 1 0")
        self.says(desk, "run n=5000", "long 0 2000")
        desk = self.desk("text out a; out b - a; fail 0 - 7")
        self.says(desk, "run b=-10 a=5", "failed -7 0 5 -15")
        self.says(desk, "run a=1", "failed -1 0 1")
        self.says(desk, "run a=" + "9" * 30 + " b=-" + "9" * 30, "failed -7 0 " + "9" * 30)
        self.refused(desk, NoLine, "run a", "run a=", "run =1", "run a=b", "run a=1 a=2", "run a=1 b=2 a=1", "run a=01", "run a=-0", "run a=-01", "run a=--1", "run a=+1",
                     "run a=1e3", "run a=1=1", "run a==1", "run A=1", "run let=1", "run abcdefghijklm=1", "run 1=1", "run a=1,b=2", "run a=1 ", "run  a=1", "run a =1",
                     "run a= 1", "run a=1" + "0" * 30, "run a=-1" + "0" * 30, "run a=-", "run a=1 b", "run -1")

    def test_lead(self):
        desk = self.desk("text let long = 1;  out long", "rename a")
        self.says(desk, "show", "let a=1;out a")
        # The map of let, a, =, 1, ;, out and a.
        rows = ((0, 3, "0 12"), (4, 5, "4 8"), (5, 6, "0 12"), (6, 7, "11 12"), (7, 8, "0 23"), (8, 11, "15 23"), (12, 13, "19 23"))
        for begin, end, answer in rows:
            for at in range(begin, end):
                self.says(desk, "lead " + str(at), answer)
        self.refused(desk, NoMap, "lead 3", "lead 11", "lead 13", "lead 99", "lead " + "9" * 30)
        self.refused(desk, NoLine, "lead", "lead -1", "lead 00", "lead 01", "lead a", "lead 1.2", "lead 1 2", "lead -", "lead 1" + "0" * 30, "lead  1", "lead 1 ")

    def test_map(self):
        desk = self.desk("text " + TEXT)
        self.says(desk, "map", map_text(Trace(TEXT).map()))
        self.says(desk, "lean", "ok")
        trace = Trace(TEXT)
        trace.lean()
        self.says(desk, "map", map_text(trace.map()))


class NoLines(Case):

    def test_paths(self):
        desk = self.desk("text out 1 + 2")
        self.refused(desk, NoLine, "turn 0. reckon", "turn .0 reckon", "turn 0..1 reckon", "turn 0,1 reckon", "turn 00 reckon", "turn 0.01 reckon", "turn -1 reckon", "turn 0.-1 reckon",
                     "turn 0.1e1 reckon", "turn a reckon", "turn () reckon", "turn 0-1 reckon", "turn -- reckon", "turn -.0 reckon", "turn 1" + "0" * 30 + " reckon",
                     "turn 0." + "1" * 31 + " reckon", "turn (0,1) reckon", "turn +0 reckon")

    def test_counts_of_words(self):
        desk = self.desk("text out 1 + 2")
        self.refused(desk, NoLine, "turn", "turn 0.1", "turn reckon", "turn 0.1 reckon 1", "turn 0.1 reckon gone")
        for word in ("bare", "lean", "back", "least", "show", "size", "turnings", "gone", "names", "outers", "cost", "map"):
            self.refused(desk, NoLine, word + " 1", word + " " + word, word + " a b")

    def test_blanks(self):
        desk = self.desk("text out 1 + 2")
        self.refused(desk, NoLine, "", " ", "  ", " show", "show ", "  show", "show  ", " text a", "turn  0.1 reckon", "turn 0.1  reckon", "turn 0.1 reckon ", " turn 0.1 reckon",
                     "run ", "rename ", "\tshow", "turn\t0.1 reckon")

    def test_other_words(self):
        desk = self.desk("text out 1 + 2")
        self.refused(desk, NoLine, "text", "texts", "text1", "textout 1", "Text a", "shows", "SHOW", "say", "props", "props a b", "steps", "tree", "help", "0", "-", "show,", "show;",
                     "out 1", "reckon", "turned 0.1 reckon", "ok", "none", "is_map", "leaned")

    def test_a_refused_line_takes_no_step(self):
        desk = self.desk("text out 1 + 2 + 3", "turn 0.1.2 reckon")
        for line in ("turn 0.1.2 reckon", "turn 0.1", "rename a", "text B", "lead 99", "show 1", ""):
            with self.assertRaises(LeanError):
                desk.say(line)
        self.says(desk, "show", "out 3+3")
        self.says(desk, "back", "ok")
        self.says(desk, "show", "out 1+2+3")
        self.refused(desk, NoCount, "back")


class All(Case):

    def test_as_the_functions_tell(self):
        for text in PROGRAMS[::3] + tuple(tight(tree) for tree in turnable_trees(100)):
            if len(text) > 1900:
                continue
            tree = read(text)
            desk = self.desk("text " + text)
            self.says(desk, "show", tight(tree) or "none")
            self.says(desk, "size", str(len(tight(tree))))
            for line, rows in (("turnings", turnings(tree)), ("gone", gone(tree))):
                self.says(desk, line, ", ".join(".".join(map(str, path)) + " " + word for path, word in rows) or "none")
            names = [name for name, _, _ in bindings(tree)]
            self.says(desk, "names", " ".join(names) or "none")
            self.says(desk, "cost", str(cost(tree, names)))
            end, number, outs, steps = run(tree, {"a": 3, "k": -4})
            self.says(desk, "run a=3 k=-4", " ".join(map(str, [end, number, steps] + outs)))
            self.says(desk, "map", map_text(Trace(text).map()))
            for path, word in turnings(tree) + [(path, "gone") for path, _ in gone(tree)]:
                trace = Trace(text)
                trace.turn(path, word)
                self.says(desk, "turn " + ".".join(map(str, path)) + " " + word, "ok")
                self.says(desk, "show", trace.text() or "none")
                self.says(desk, "map", map_text(trace.map()))
                self.says(desk, "back", "ok")
            trace = Trace(text)
            trace.bare()
            trace.lean()
            for line in ("bare", "lean"):
                self.says(desk, line, "ok")
            self.says(desk, "map", map_text(trace.map()))

    def test_letters(self):
        self.assertEqual(LETTERS, "abcdefghijklmnopqrstuvwxyz")
        for letters in (None, True, 2, "", "a", "aa", "aB", "a1", "a b", ["a", "b"], ("a", "b"), LETTERS + "a"):
            refusal(self, NoLetters, Desk, letters=letters)
        Desk(letters="ba")
        with self.assertRaises(TypeError):
            Desk("ab")

    def test_two_desks(self):
        one, other = self.desk("text out 1"), self.desk("text out 2")
        self.says(one, "show", "out 1")
        self.says(other, "show", "out 2")

    def test_again_and_by_name(self):
        desk = self.desk("text " + TEXT)
        for line in ALL:
            self.assertEqual(desk.say(line), desk.say(line=line))


if __name__ == "__main__":
    unittest.main()
