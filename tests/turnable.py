"""Trees at random in which much can be turned and much can go."""

import random

from helper import NAMES, TWO_SIGNS
from leanscript.trees import is_tree

NUMS = (0, 0, 1, 2, 7, 10 ** 9, 10 ** 18 - 1)


class Turner:
    """Makes trees at random, most of which are within all bounds."""

    def __init__(self, seed):
        self.rng = random.Random(seed)

    def name(self):
        return ("name", self.rng.choice(NAMES[:4]))

    def num(self):
        return ("num", self.rng.choice(NUMS))

    def leaf(self):
        return self.rng.choice((self.name(), self.name(), self.num()))

    def expression(self, depth):
        if depth <= 0:
            return self.leaf()
        below = depth - 1
        word = self.rng.choice(("leaf", "not", "not", "num two", "two", "and", "or", "pick", "neg", "fn", "give", "rec", "get", "call"))
        if word == "leaf":
            return self.leaf()
        if word in ("not", "neg"):
            return (word, self.expression(below))
        if word == "num two":
            sides = [("neg", self.num()) if self.rng.random() < 0.4 else self.num() for _ in range(2)]
            return ("two", self.rng.choice(TWO_SIGNS), *sides)
        if word == "two":
            return ("two", self.rng.choice(TWO_SIGNS), self.expression(below), self.expression(below))
        if word in ("and", "or"):
            return (word, self.expression(below), self.expression(below))
        if word == "pick":
            return ("pick", self.expression(below), self.expression(below), self.expression(below))
        if word in ("fn", "give"):
            xs = tuple(self.rng.sample(NAMES[:4], self.rng.randint(0, 1)))
            return ("fn", xs, ("give", self.expression(below)) if word == "give" else self.body(below, xs))
        if word == "rec":
            return ("rec", tuple((k, self.expression(below)) for k in self.rng.sample(NAMES[:3], self.rng.randint(0, 2))))
        if word == "get":
            return ("get", self.expression(below), self.rng.choice(NAMES[:3]))
        return ("call", self.expression(below), tuple(self.expression(below) for _ in range(self.rng.randint(0, 1))))

    def body(self, depth, xs):
        """The statements of an fn, often with a return at the end."""
        told = self.statements(depth, True, xs, xs)
        more = self.rng.random()
        if more < 0.3:
            return (*told, ("return", ("num", 0)))
        if more < 0.6:
            first = ("if", self.expression(depth), ("return", self.leaf()), None)
            return (*told, first, ("return", self.expression(depth)))
        if more < 0.8:
            return (("return", self.expression(depth)),)
        return told

    def pairs(self, depth, free):
        many = self.rng.randint(1, min(2, len(free)))
        return tuple((x, self.rng.choice((self.num(), self.expression(depth)))) for x in self.rng.sample(free, many))

    def statements(self, depth, in_fn=False, known=(), taken=()):
        told = []
        for _ in range(self.rng.randint(0, 3)):
            free = [x for x in NAMES[:4] if x not in taken]
            if free and self.rng.random() < 0.4:
                pairs = self.pairs(depth - 1, free)
                known, taken = (*known, *[x for x, _ in pairs]), (*taken, *[x for x, _ in pairs])
                told.append(("let", pairs))
            else:
                told.append(self.statement(depth, in_fn, known))
        return tuple(told)

    def alone(self, depth, in_fn, known):
        choice = self.rng.random()
        if choice < 0.15:
            return ("let", self.pairs(depth - 1, list(NAMES[:4])))
        if choice < 0.3:
            return ("block", ())
        if choice < 0.45:
            return ("block", (self.statement(depth - 1, in_fn, known),))
        return self.statement(depth, in_fn, known)

    def one_of(self, word, depth, known):
        """A statement of a word, in which no other one stands."""
        if word == "set":
            return ("set", self.rng.choice(known), self.expression(depth)) if known else ("do", self.leaf())
        if word == "put":
            return ("put", self.name(), self.rng.choice(NAMES[:3]), self.expression(depth))
        return (word, self.expression(depth))

    def both(self, depth, in_fn, known):
        """Two statements that often are of one word."""
        words = ("do", "out", "fail", "set", "return") if in_fn else ("do", "out", "fail", "set")
        word = self.rng.choice(words)
        if self.rng.random() < 0.5:
            return self.one_of(word, depth, known), self.one_of(word, depth, known)
        return self.alone(depth, in_fn, known), self.alone(depth, in_fn, known)

    def statement(self, depth, in_fn, known):
        if depth <= 0:
            return ("out", self.leaf())
        below = depth - 1
        word = self.rng.choice(("set", "put", "do", "do", "if", "if", "if else", "if else", "while", "return", "fail", "try", "out", "out", "block"))
        if word == "if":
            return ("if", self.expression(below), self.alone(below, in_fn, known), None)
        if word == "if else":
            s, t = self.both(below, in_fn, known)
            return ("if", self.expression(below), ("block", (s,)) if s[0] in ("if", "while") and self.rng.random() < 0.8 else s, t)
        if word == "while":
            test = ("num", 0) if self.rng.random() < 0.3 else self.expression(below)
            return ("while", test, self.alone(below, in_fn, known))
        if word == "try":
            x = self.rng.choice(NAMES[:4])
            return ("try", self.statements(below, in_fn, known), x, self.statements(below, in_fn, (*known, x), (x,)))
        if word == "block":
            return ("block", self.statements(below, in_fn, known))
        if word == "return" and not in_fn:
            word = "out"
        return self.one_of(word, below, known)


def turnable_trees(many, depth=4, first=0):
    """Trees at random, without those beyond the bounds; many tries are made."""
    made = [Turner(seed).statements(depth) for seed in range(first, first + many)]
    return [tree for tree in made if tree and is_tree(tree)]
