"""What several tests use: refusals, trees at random, and the grammar of the document written out once more."""

import random

from leanscript.errors import NoTree
from leanscript.reading import read
from leanscript.trees import must_tree

NAMES = ("a", "b", "c", "d", "ab", "longestnames")
KEPT = ("let", "if", "else", "while", "return", "fail", "try", "catch", "out", "fn")
TWO_SIGNS = ("+", "-", "*", "/", "~", "<", ">", "<=", ">=", "==", "!=")
NUMBERS = (0, 1, 2, 7, 10, 99, 100, 1000, 12000, 10 ** 10, 10 ** 17, 10 ** 18 - 1)


def refusal(case, kind, call, *given, **named):
    """The error of just this class that a call raises."""
    with case.assertRaises(kind) as caught:
        call(*given, **named)
    case.assertIs(type(caught.exception), kind)
    return caught.exception


def name(x):
    return ("name", x)


def num(n):
    return ("num", n)


def do(e):
    return ("do", e)


def nested(depth, word="neg", inner=("num", 1)):
    """An expression of a depth."""
    for _ in range(depth - 1):
        inner = (word, inner)
    return inner


def thing_at(tree, path):
    """What stands at a path."""
    for step in path:
        tree = tree[step]
    return tree


def lists_in(thing):
    """All lists that stand anywhere in a thing."""
    if not isinstance(thing, (list, tuple)):
        return []
    here = [thing] if isinstance(thing, list) else []
    return here + [one for part in thing for one in lists_in(part)]


def spoil(thing):
    """Changes every list in a thing."""
    for one in lists_in(thing):
        one.append("spoilt")
        one.reverse()


def asked_again(case, call, *given):
    """That a call tells the same again, also when what it told was changed, and no list of it stands twice."""
    first = call(*given)
    kept = repr(first)
    lists = lists_in(first)
    case.assertEqual(len({id(one) for one in lists}), len(lists))
    spoil(first)
    case.assertEqual(repr(call(*given)), kept)


class Maker:
    """Makes trees at random, most of which are within all bounds."""

    def __init__(self, seed):
        self.rng = random.Random(seed)

    def some(self, most):
        return range(self.rng.randint(0, most))

    def names(self, most):
        return tuple(self.rng.sample(NAMES, self.rng.randint(0, most)))

    def expression(self, depth):
        if depth <= 1:
            return self.rng.choice((num(self.rng.choice(NUMBERS)), name(self.rng.choice(NAMES))))
        word = self.rng.choice(("num", "name", "get", "call", "rec", "fn", "give", "neg", "not",
                                "two", "two", "two", "and", "or", "pick"))
        below = depth - 1
        if word in ("num", "name"):
            return self.expression(1)
        if word == "get":
            return ("get", self.expression(below), self.rng.choice(NAMES))
        if word == "call":
            return ("call", self.expression(below), tuple(self.expression(below) for _ in self.some(2)))
        if word == "rec":
            return ("rec", tuple((k, self.expression(below)) for k in self.names(2)))
        if word == "give":
            return ("fn", self.names(2), ("give", self.expression(below)))
        if word == "fn":
            xs = self.names(2)
            return ("fn", xs, self.statements(below, True, xs, xs))
        if word in ("neg", "not"):
            return (word, self.expression(below))
        if word == "two":
            return ("two", self.rng.choice(TWO_SIGNS), self.expression(below), self.expression(below))
        if word == "pick":
            return ("pick", self.expression(below), self.expression(below), self.expression(below))
        return (word, self.expression(below), self.expression(below))

    def statements(self, depth, in_fn=False, known=(), taken=()):
        told = []
        for _ in self.some(3):
            free = [x for x in NAMES if x not in taken]
            if free and self.rng.random() < 0.3:
                pairs = tuple((x, self.expression(depth - 1)) for x in self.rng.sample(free, 1))
                known, taken = (*known, pairs[0][0]), (*taken, pairs[0][0])
                told.append(("let", pairs))
            else:
                told.append(self.statement(depth, in_fn, known))
        return tuple(told)

    def alone(self, depth, in_fn, known):
        if self.rng.random() < 0.2:
            return ("let", tuple((x, self.expression(depth - 1)) for x in self.rng.sample(NAMES, 2)))
        return self.statement(depth, in_fn, known)

    def statement(self, depth, in_fn, known):
        if depth <= 2:
            return ("do", self.expression(1))
        below = depth - 1
        word = self.rng.choice(("set", "put", "do", "if", "if", "while", "return", "fail", "try", "out", "block"))
        if word == "set" and known:
            return ("set", self.rng.choice(known), self.expression(below))
        if word == "put":
            return ("put", self.expression(below), self.rng.choice(NAMES), self.expression(below))
        if word == "if":
            s, t = self.alone(below, in_fn, known), self.alone(below, in_fn, known)
            c = self.expression(below)
            if self.rng.random() < 0.5:
                return ("if", c, s, None)
            return ("if", c, ("block", (s,)) if s[0] in ("if", "while") else s, t)
        if word == "while":
            return ("while", self.expression(below), self.alone(below, in_fn, known))
        if word == "try":
            x = self.rng.choice(NAMES)
            caught = self.statements(below, in_fn, (*known, x), (x,))
            return ("try", self.statements(below, in_fn, known), x, caught)
        if word == "block":
            return ("block", self.statements(below, in_fn, known))
        if word in ("fail", "out") or word == "return" and in_fn:
            return (word, self.expression(below))
        return ("do", self.expression(below))


def trees_at_random(many, depth=5):
    return [Maker(seed).statements(depth) for seed in range(many)]


LIVE = read("""let a = 2, b = [a: 1, b: 5, ab: []], c = fn (a) a + 1,
    d = fn () { let c = 3; while (c) c = c - 1; return c }, ab = 0;""")


def live_tree(seed, depth=5):
    """A tree at random that goes on behind failures, and the names of which often have worths."""
    maker = Maker(seed)
    told = []
    for _ in range(3):
        body = maker.statements(depth, True, ("a", "b", "c", "d", "ab"))
        told.append(("try", (("out", ("call", ("fn", (), body), ())),), "d", (("out", name("d")),)))
    return LIVE + tuple(told) + maker.statements(depth, False, ("a", "b", "c", "d", "ab"), ("a", "b", "c", "d", "ab"))


def live_trees(many, depth=5):
    """Trees at random that go on behind failures, without those beyond the bounds."""
    told = []
    for seed in range(many):
        tree = live_tree(seed, depth)
        try:
            must_tree(tree)
        except NoTree:
            continue
        told.append(tree)
    return told


RULES = """
LIST: FULL LIST | FULL | BARE
FULL: SIMPLE ; | if ( E ) FULL | if ( E ) FULL else FULL | while ( E ) FULL | try BRACED catch ( x ) BRACED | BRACED
BARE: SIMPLE | if ( E ) BARE | if ( E ) FULL else BARE | while ( E ) BARE
BRACED: { } | { LIST }
SIMPLE: let PAIRS | x = E | BEHIND . x = E | E | return E | fail E | out E
PAIRS: x = E | x = E , PAIRS
E: fn XS E | OR ? E : E | OR
OR: OR || AND | AND
AND: AND && SAME | SAME
SAME: SAME == ORDER | SAME != ORDER | ORDER
ORDER: ORDER < SUM | ORDER > SUM | ORDER <= SUM | ORDER >= SUM | SUM
SUM: SUM + TIMES | SUM - TIMES | TIMES
TIMES: TIMES * AHEAD | TIMES / AHEAD | TIMES ~ AHEAD | AHEAD
AHEAD: - AHEAD | ! AHEAD | BEHIND
BEHIND: BEHIND . x | BEHIND ( ) | BEHIND ( ES ) | TIGHT
ES: E | E , ES
TIGHT: 1 | x | ( E ) | [ ] | [ FIELDS ] | fn XS BRACED
FIELDS: x : E | x : E , FIELDS
XS: ( ) | ( NAMES )
NAMES: x | x , NAMES
"""


def grammar():
    """For each word in capitals the rows of words by which it may stand."""
    told = {}
    for line in RULES.strip().split("\n"):
        head, _, rest = line.partition(": ")
        told[head] = [tuple(row.split()) for row in rest.split(" | ")]
    return told


GRAMMAR = grammar()


def first_wrong(signs):
    """The number of the first of some words ("x" a name, "1" a number) at which no text goes on so,
    their count where they end too soon, None where they are a text: by Earley's way."""
    if not signs:
        return None
    states = [{("LIST", row, 0, 0) for row in GRAMMAR["LIST"]}]
    for at in range(len(signs) + 1):
        waiting = list(states[at])
        behind = set()
        while waiting:
            head, row, dot, begin = waiting.pop()
            if dot == len(row):
                found = {(h, r, d + 1, b) for h, r, d, b in states[begin] if d < len(r) and r[d] == head}
            elif row[dot] in GRAMMAR:
                found = {(row[dot], other, 0, at) for other in GRAMMAR[row[dot]]}
            else:
                found = set()
                if at < len(signs) and row[dot] == signs[at]:
                    behind.add((head, row, dot + 1, begin))
            for state in found - states[at]:
                states[at].add(state)
                waiting.append(state)
        if at == len(signs):
            done = [row for head, row, dot, begin in states[at] if head == "LIST" and begin == 0 and dot == len(row)]
            return None if done else at
        if not behind:
            return at
        states.append(behind)
    return None


def sign_of(sort, word):
    return {"name": "x", "number": "1"}.get(sort, word)
