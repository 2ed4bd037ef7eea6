"""Turnings and goings once more, by the words of the document, on trees the things in which know whence they come."""

from leanscript.reading import read, spots
from leanscript.writing import tight_spots

WORDS = "reckon choose other double swap and join tail lets open give last test less carry".split()
RECKONED = {
    "+": lambda a, b: a + b, "-": lambda a, b: a - b, "*": lambda a, b: a * b,
    "/": lambda a, b: a // b if b else None, "~": lambda a, b: a - a // b * b if b else None,
    "<": lambda a, b: int(a < b), ">": lambda a, b: int(a > b), "<=": lambda a, b: int(a <= b), ">=": lambda a, b: int(a >= b),
    "==": lambda a, b: int(a == b), "!=": lambda a, b: int(a != b),
}
CONTRARY = {"<": ">=", ">": "<=", "<=": ">", ">=": "<", "==": "!=", "!=": "=="}


class Thing(tuple):
    """A tuple in a tree that knows whence it comes."""


class Word(str):
    """A text in a tree that knows whence it comes."""


def mark(thing, path, stretches):
    """A thing at a path, with all that is in it, that knows its stretch."""
    if isinstance(thing, tuple):
        told = Thing(mark(inner, (*path, at), stretches) for at, inner in enumerate(thing))
    elif isinstance(thing, str):
        told = Word(thing)
    else:
        return thing
    told.came = stretches.get(path)
    return told


def marked(text):
    return mark(read(text), (), {path: (begin, end) for path, begin, end in spots(text)})


def plain(thing):
    if isinstance(thing, tuple):
        return tuple(plain(inner) for inner in thing)
    return str(thing) if isinstance(thing, str) else thing


def made(came, *things):
    """A new part."""
    told = Thing(things)
    told.came = came
    return told


def at(tree, path):
    for step in path:
        tree = tree[step]
    return tree


def put(thing, path, things):
    """A thing with others in the stead of what stands at a path in it."""
    step = path[0]
    inner = list(things) if len(path) == 1 else [put(thing[step], path[1:], things)]
    return made(thing.came, *thing[:step], *inner, *thing[step + 1:])


def hull(*things):
    return (min(thing.came[0] for thing in things), max(thing.came[1] for thing in things))


def walk(thing, path=()):
    """All paths of tuples that are parts."""
    expressions = "num name get call rec fn neg not two and or pick".split()
    statements = "let set put do if while return fail try out block".split()
    if path and thing and isinstance(thing[0], str) and thing[0] in expressions + statements and not is_pair(thing):
        yield path
    for step, inner in enumerate(thing):
        if isinstance(inner, tuple):
            yield from walk(inner, (*path, step))


def is_pair(thing):
    """A pair's name is a spot; the word of a part is none."""
    return getattr(thing[0], "came", None) is not None


def in_list(tree, path):
    """Whether what is at a path stands in a list of statements."""
    around = at(tree, path[:-1])
    return path[:-1] == () or not (around and isinstance(around[0], str))


def pairs_in(tree):
    return [(*path, 1, step) for path in walk(tree) if at(tree, path)[0] == "let" for step in range(len(at(tree, path)[1]))]


def is_num(part):
    return part[0] == "num"


def value(part):
    if is_num(part):
        return part[1]
    return -part[1][1] if part[0] == "neg" and is_num(part[1]) else None


def is_test(tree, path):
    """Whether an expression is at a test place."""
    around, step = at(tree, path[:-1]), path[-1]
    if not around or around[0] not in ("if", "while", "pick", "not", "and", "or"):
        return False
    if around[0] in ("if", "while", "not") or around[0] == "pick" and step == 1:
        return step == 1
    return is_test(tree, path[:-1])


def reckon(tree, path, part):
    came = part.came
    if part[0] == "not" and is_num(part[1]):
        return [(path, [made(came, "num", int(part[1][1] == 0))])]
    if part[0] == "two" and value(part[2]) is not None and value(part[3]) is not None:
        number = RECKONED[part[1]](value(part[2]), value(part[3]))
        if number is not None and abs(number) <= 10 ** 18 - 1:
            num = made(came, "num", abs(number))
            return [(path, [num if number >= 0 else made(came, "neg", num)])]
    return None


def choose(tree, path, part):
    if part[0] not in ("and", "or", "pick", "if") or not is_num(part[1]):
        return None
    holds = part[1][1] != 0
    if part[0] == "and":
        chosen = part[2] if holds else part[1]
    elif part[0] == "or":
        chosen = part[1] if holds else part[2]
    else:
        chosen = part[2] if holds else part[3]
    if chosen is None:
        chosen = made(part.came, "block", ())
    elif chosen[0] == "let":
        chosen = made(part.came, "block", made(None, chosen))
    return [(path, [chosen])]


def other(tree, path, part):
    if part[0] == "not" and part[1][0] == "two" and part[1][1] in CONTRARY:
        return [(path, [made(part.came, "two", CONTRARY[part[1][1]], part[1][2], part[1][3])])]
    return None


def double(tree, path, part):
    if part[0] == "not" and part[1][0] == "not" and is_test(tree, path):
        return [(path, [part[1][1]])]
    return None


def swap(tree, path, part):
    if part[0] in ("if", "pick") and part[3] is not None and part[1][0] == "not":
        return [(path, [made(part.came, part[0], part[1][1], part[3], part[2])])]
    return None


def and_(tree, path, part):
    if part[0] != "if" or part[3] is not None or part[2][0] != "do":
        return None
    word, c = ("or", part[1][1]) if part[1][0] == "not" else ("and", part[1])
    return [(path, [made(part.came, "do", made(part.came, word, c, part[2][1]))])]


def join(tree, path, part):
    if part[0] != "if" or part[3] is None or part[2][0] != part[3][0]:
        return None
    word = str(part[2][0])
    if word in ("do", "return", "fail", "out"):
        return [(path, [made(part.came, word, made(part.came, "pick", part[1], part[2][1], part[3][1]))])]
    if word == "set" and part[2][1] == part[3][1]:
        return [(path, [made(part.came, "set", part[2][1], made(part.came, "pick", part[1], part[2][2], part[3][2]))])]
    return None


def behind(tree, path):
    """The path of the statement straight behind, None where there is none."""
    if not in_list(tree, path) or path[-1] + 1 >= len(at(tree, path[:-1])):
        return None
    return (*path[:-1], path[-1] + 1)


def tail(tree, path, part):
    if part[0] != "if" or part[3] is not None or part[2][0] != "return" or behind(tree, path) is None:
        return None
    next_one = at(tree, behind(tree, path))
    if next_one[0] != "return":
        return None
    came = hull(part, next_one)
    return [(path, [made(came, "return", made(came, "pick", part[1], part[2][1], next_one[1]))]), (behind(tree, path), [])]


def lets(tree, path, part):
    if part[0] != "let" or behind(tree, path) is None:
        return None
    next_one = at(tree, behind(tree, path))
    if next_one[0] != "let":
        return None
    return [(path, [made(hull(part, next_one), "let", made(None, *part[1], *next_one[1]))]), (behind(tree, path), [])]


def open_(tree, path, part):
    if part[0] != "block" or any(one[0] == "let" for one in part[1]):
        return None
    return [(path, list(part[1]))] if in_list(tree, path) or len(part[1]) == 1 else None


def give(tree, path, part):
    if part[0] == "fn" and len(part[2]) == 1 and part[2][0][0] == "return":
        return [(path, [made(part.came, "fn", part[1], made(None, "give", part[2][0][1]))])]
    return None


def last(tree, path, part):
    if part[0] != "return" or part[1] != ("num", 0) or not in_list(tree, path) or behind(tree, path) is not None:
        return None
    around = at(tree, path[:-2])
    return [(path, [])] if around and around[0] == "fn" else None


def test(tree, path, part):
    if part[0] == "if" and part[2] == ("block", ()) and part[3] is None:
        return [(path, [made(part.came, "do", part[1])])]
    return None


def less(tree, path, part):
    if part[0] == "if" and part[3] == ("block", ()):
        return [(path, [made(part.came, "if", part[1], part[2], None)])]
    return None


def gone_statement(tree, path):
    """The exchange of a statement that goes, for nothing or, for an s or t, an empty block."""
    return (path, [] if in_list(tree, path) else [made(at(tree, path).came, "block", ())])


def gone_pair(tree, path):
    let = path[:-2]
    return (path, []) if len(at(tree, let)[1]) > 1 else gone_statement(tree, let)


def carry(tree, path, uses, is_sure):
    """Of a let's pair, with the paths of its uses, and what tells whether a use is sure."""
    worth = at(tree, path)[1]
    if not is_num(worth) or any(isinstance(at(tree, use), str) or not is_sure(use) for use in uses):
        return None
    return [gone_pair(tree, path)] + [(use, [made(at(tree, use).came, "num", worth[1])]) for use in uses]


TURNS = {
    "reckon": reckon, "choose": choose, "other": other, "double": double, "swap": swap, "and": and_, "join": join, "tail": tail,
    "lets": lets, "open": open_, "give": give, "last": last, "test": test, "less": less,
}


def exchanged(tree, rows):
    """A tree with exchanges, the last ones first, so that no path changes."""
    for path, things in sorted(rows, key=lambda row: row[0], reverse=True):
        tree = put(tree, path, things)
    return tree


def turned_by_words(tree, bindings, is_sure):
    """For each (path, word) of a turning its outcome, also where that is no tree."""
    told = {}
    for path in walk(tree):
        for word, turn in TURNS.items():
            rows = turn(tree, path, at(tree, path))
            if rows is not None:
                told[path, word] = exchanged(tree, rows)
    uses = {place: uses for _, place, uses in bindings}
    for pair in pairs_in(tree):
        rows = carry(tree, pair, uses[(*pair, 0)], is_sure)
        if rows is not None:
            told[pair, "carry"] = exchanged(tree, rows)
    return told


def ends(part):
    if part[0] == "block":
        return any(ends(one) for one in part[1])
    if part[0] == "if":
        return part[3] is not None and ends(part[2]) and ends(part[3])
    if part[0] == "try":
        return any(ends(one) for one in part[1]) and any(ends(one) for one in part[3])
    return part[0] in ("return", "fail")


def gone_by_words(tree, bindings, is_still):
    """For each (path, why) of what can go its outcome, however long."""
    told = {}
    uses = {place: uses for _, place, uses in bindings}
    for path in walk(tree):
        part = at(tree, path)
        whys = []
        if part[0] in "let set put do if while return fail try out block".split() and in_list(tree, path):
            if any(ends(one) for one in at(tree, path[:-1])[:path[-1]]):
                mine = [uses[(*path, 1, step, 0)] for step in range(len(part[1]))] if part[0] == "let" else []
                if all(use[:len(path)] == path for row in mine for use in row):
                    whys.append("behind")
            if part == ("block", ()):
                whys.append("empty")
        if part[0] == "do" and is_still((*path, 1)):
            whys.append("still")
        if part[0] == "while" and part[1] == ("num", 0):
            whys.append("never")
        for why in whys:
            told[path, why] = exchanged(tree, [gone_statement(tree, path)])
    for pair in pairs_in(tree):
        if is_still((*pair, 1)) and all(use[:len(pair) + 1] == (*pair, 1) for use in uses[(*pair, 0)]):
            told[pair, "unreached"] = exchanged(tree, [gone_pair(tree, pair)])
    return told


def origins(tree):
    """By paths whence the parts, names and properties of a tree come."""
    return {path: at(tree, path).came for path, _, _ in tight_spots(plain(tree))}
