"""[10]: where what stands in a tree stands in its text."""

import random
import unittest

from helper import asked_again, refusal, trees_at_random
from leanscript.errors import NoText, NoTree
from leanscript.reading import read, spots
from leanscript.trees import part_at, parts
from leanscript.words import words
from leanscript.writing import tight


class Spots(unittest.TestCase):

    def tells(self, text, *wanted):
        """That the spots are these: (path, the part of the text, how many like it stand ahead of it)."""
        told = []
        for path, part, *ahead in wanted:
            begin = -1
            for _ in range(1 + sum(ahead)):
                begin = text.index(part, begin + 1)
            told.append((path, begin, begin + len(part)))
        self.assertEqual(spots(text), told)


class Each(Spots):

    def test_none(self):
        self.assertEqual(spots(""), [])
        self.assertEqual(spots(" \n"), [])

    def test_documents_own(self):
        self.assertEqual(spots("if (a) b; else c;"), [
            ((0,), 0, 16), ((0, 1), 4, 5), ((0, 2), 7, 8), ((0, 2, 1), 7, 8), ((0, 3), 15, 16), ((0, 3, 1), 15, 16)])

    def test_let(self):
        self.tells("let xa = 1 , yb = 23 ; ", ((0,), "let xa = 1 , yb = 23"), ((0, 1, 0, 0), "xa"), ((0, 1, 0, 1), "1"),
                   ((0, 1, 1, 0), "yb"), ((0, 1, 1, 1), "23"))

    def test_set_and_put(self):
        self.tells("let x=1; x = 2;", ((0,), "let x=1"), ((0, 1, 0, 0), "x"), ((0, 1, 0, 1), "1"), ((1,), "x = 2"),
                   ((1, 1), "x", 1), ((1, 2), "2"))
        self.tells("a.b = c", ((0,), "a.b = c"), ((0, 1), "a"), ((0, 2), "b"), ((0, 3), "c"))
        self.tells("(a . b) . c = (d);", ((0,), "(a . b) . c = (d)"), ((0, 1), "a . b"), ((0, 1, 1), "a"), ((0, 1, 2), "b"),
                   ((0, 2), "c"), ((0, 3), "d"))

    def test_words_ahead(self):
        self.tells("out (a) ;", ((0,), "out (a)"), ((0, 1), "a"))
        self.tells("fail a", ((0,), "fail a"), ((0, 1), "a", 1))
        self.tells("fn () { return a; }", ((0,), "fn () { return a; }"), ((0, 1), "fn () { return a; }"),
                   ((0, 1, 2, 0), "return a"), ((0, 1, 2, 0, 1), "a"))

    def test_if_and_while(self):
        self.tells("if (a) b;", ((0,), "if (a) b"), ((0, 1), "a"), ((0, 2), "b"), ((0, 2, 1), "b"))
        self.tells("if ((a)) b; else { c; } d", ((0,), "if ((a)) b; else { c; }"), ((0, 1), "a"), ((0, 2), "b"),
                   ((0, 2, 1), "b"), ((0, 3), "{ c; }"), ((0, 3, 1, 0), "c"), ((0, 3, 1, 0, 1), "c"),
                   ((1,), "d"), ((1, 1), "d"))
        self.tells("while (a) while (b) c ; d", ((0,), "while (a) while (b) c"), ((0, 1), "a"), ((0, 2), "while (b) c"),
                   ((0, 2, 1), "b"), ((0, 2, 2), "c"), ((0, 2, 2, 1), "c"), ((1,), "d"), ((1, 1), "d"))
        self.tells("if (a) if (b) c; else d;", ((0,), "if (a) if (b) c; else d"), ((0, 1), "a"), ((0, 2), "if (b) c; else d"),
                   ((0, 2, 1), "b"), ((0, 2, 2), "c"), ((0, 2, 2, 1), "c"), ((0, 2, 3), "d"), ((0, 2, 3, 1), "d"))

    def test_try_and_block(self):
        self.tells("try { a; } catch (x) { b }", ((0,), "try { a; } catch (x) { b }"), ((0, 1, 0), "a"), ((0, 1, 0, 1), "a"),
                   ((0, 2), "x"), ((0, 3, 0), "b"), ((0, 3, 0, 1), "b"))
        self.tells(" { { } a } ", ((0,), "{ { } a }"), ((0, 1, 0), "{ }"), ((0, 1, 1), "a"), ((0, 1, 1, 1), "a"))

    def test_expressions(self):
        self.tells("a . b . c;", ((0,), "a . b . c"), ((0, 1), "a . b . c"), ((0, 1, 1), "a . b"), ((0, 1, 1, 1), "a"),
                   ((0, 1, 1, 2), "b"), ((0, 1, 2), "c"))
        self.tells("f (a, (b)) ;", ((0,), "f (a, (b))"), ((0, 1), "f (a, (b))"), ((0, 1, 1), "f"), ((0, 1, 2, 0), "a"),
                   ((0, 1, 2, 1), "b"))
        self.tells("[k: 1, l: (2)]", ((0,), "[k: 1, l: (2)]"), ((0, 1), "[k: 1, l: (2)]"), ((0, 1, 1, 0, 0), "k"),
                   ((0, 1, 1, 0, 1), "1"), ((0, 1, 1, 1, 0), "l"), ((0, 1, 1, 1, 1), "2"))
        self.tells("fn (x, y) (a)", ((0,), "fn (x, y) (a)"), ((0, 1), "fn (x, y) (a)"), ((0, 1, 1, 0), "x"),
                   ((0, 1, 1, 1), "y"), ((0, 1, 2, 1), "a"))
        self.tells("- ! a", ((0,), "- ! a"), ((0, 1), "- ! a"), ((0, 1, 1), "! a"), ((0, 1, 1, 1), "a"))
        self.tells("a ? b : (c)", ((0,), "a ? b : (c)"), ((0, 1), "a ? b : (c)"), ((0, 1, 1), "a"), ((0, 1, 2), "b"),
                   ((0, 1, 3), "c"))
        self.tells("a || b && c", ((0,), "a || b && c"), ((0, 1), "a || b && c"), ((0, 1, 1), "a"), ((0, 1, 2), "b && c"),
                   ((0, 1, 2, 1), "b"), ((0, 1, 2, 2), "c"))

    def test_brackets_belong_to_what_is_around(self):
        self.tells("((a))", ((0,), "((a))"), ((0, 1), "a"))
        self.tells("(a + b) * (c);", ((0,), "(a + b) * (c)"), ((0, 1), "(a + b) * (c)"), ((0, 1, 2), "a + b"),
                   ((0, 1, 2, 2), "a"), ((0, 1, 2, 3), "b"), ((0, 1, 3), "c"))
        self.tells("-(a)", ((0,), "-(a)"), ((0, 1), "-(a)"), ((0, 1, 1), "a"))
        self.tells("(a).b", ((0,), "(a).b"), ((0, 1), "(a).b"), ((0, 1, 1), "a"), ((0, 1, 2), "b"))
        self.tells("((a)(b))(c)", ((0,), "((a)(b))(c)"), ((0, 1), "((a)(b))(c)"), ((0, 1, 1), "(a)(b)"), ((0, 1, 1, 1), "a"),
                   ((0, 1, 1, 2, 0), "b"), ((0, 1, 2, 0), "c"))
        self.tells("(a)+(b)-(c)", ((0,), "(a)+(b)-(c)"), ((0, 1), "(a)+(b)-(c)"), ((0, 1, 2), "(a)+(b)"), ((0, 1, 2, 2), "a"),
                   ((0, 1, 2, 3), "b"), ((0, 1, 3), "c"))
        self.tells("(a) ? (b) : (c)", ((0,), "(a) ? (b) : (c)"), ((0, 1), "(a) ? (b) : (c)"), ((0, 1, 1), "a"),
                   ((0, 1, 2), "b"), ((0, 1, 3), "c"))
        self.tells("let x = (a), y = (b);", ((0,), "let x = (a), y = (b)"), ((0, 1, 0, 0), "x"), ((0, 1, 0, 1), "a"),
                   ((0, 1, 1, 0), "y"), ((0, 1, 1, 1), "b"))

    def test_refused_as_read(self):
        self.assertEqual(refusal(self, NoText, spots, "a b").at, 2)
        self.assertEqual(refusal(self, NoText, spots, "a @ b c").at, 2)
        self.assertEqual(refusal(self, NoText, spots, "a +").at, 3)
        self.assertEqual(refusal(self, NoTree, spots, "a; return b").path, (1,))
        self.assertEqual(refusal(self, NoTree, spots, "-" * 100 + "1").why, "great")

    def test_again_and_by_name(self):
        asked_again(self, spots, "let x = fn (y) [k: y]; x(1).k = 2")
        self.assertEqual(spots(text="a"), [((0,), 0, 1), ((0, 1), 0, 1)])


class AtRandom(Spots):

    def loose(self, rng, text):
        """The text with blanks and line ends between its words."""
        return "".join(rng.choice(("", " ", "\n ")) + word + " " for _, word, _ in words(text))

    def test_what_stands_there(self):
        rng = random.Random(11)
        for tree in trees_at_random(150):
            text = self.loose(rng, tight(tree))
            self.assertEqual(read(text), tree)
            told = spots(text)
            self.assertEqual(told, sorted(told))
            starts = {at for _, _, at in words(text)}
            ends = {at + len(word) for _, word, at in words(text)}
            for path, begin, end in told:
                self.assertIn(begin, starts)
                self.assertIn(end, ends)
                self.stands(tree, path, text[begin:end])
            self.assertEqual([path for path, _, _ in told if isinstance(part_at(tree, path), tuple)], parts(tree))

    def stands(self, tree, path, row):
        """That a part of a text is read as what stands at a path, or is the name there."""
        thing = part_at(tree, path)
        if isinstance(thing, str):
            self.assertEqual(row, thing)
        elif thing[0] == "num":
            self.assertEqual(read(row), (("do", thing),))
        elif thing[0] in ("name", "get", "call", "rec", "neg", "not", "two", "and", "or", "pick"):
            try:
                self.assertEqual(read("(" + row + ")"), (("do", thing),))
            except NoTree:
                pass

    def test_each_name_and_property_has_one(self):
        for tree in trees_at_random(150):
            told = {path for path, _, _ in spots(tight(tree))}
            for path in parts(tree):
                part = part_at(tree, path)
                steps = {"let": [(1, at, 0) for at in range(len(part[1]))] if part[0] == "let" else [], "set": [(1,)],
                         "try": [(2,)], "get": [(2,)], "put": [(2,)],
                         "fn": [(1, at) for at in range(len(part[1]))] if part[0] == "fn" else [],
                         "rec": [(1, at, 0) for at in range(len(part[1]))] if part[0] == "rec" else []}
                for row in steps.get(part[0], []):
                    self.assertIn((*path, *row), told)
                    told.discard((*path, *row))
                told.discard(path)
            self.assertEqual(told, set())


if __name__ == "__main__":
    unittest.main()
