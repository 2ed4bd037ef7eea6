"""What is asked of a tree again and again, worked out once."""

from leanscript.layout import laid_out
from leanscript.rooms import bindings_in
from leanscript.shapes import is_give
from leanscript.still import sure_uses
from leanscript.trees import must_tree


class Survey:
    """Of what is known to be a tree: by paths its parts, the statements of its lists, the uses of what the pairs of its
    lets let (rising), whether uses are sure, and its test places."""

    def __init__(self, tree):
        layout = laid_out(tree)
        self.whole = tree
        self.parts = {path: part for path, part, _, _ in layout.parts}
        self.lists = lists_of(tree, self.parts)
        self.pairs = pairs_of(self.parts, bindings_in(layout))
        self.sure = sure_uses(layout)
        self.tests = tests_of(self.parts)


def survey_of(thing):
    """The survey of anything, which must be a tree."""
    must_tree(thing)
    return Survey(thing)


def lists_of(tree, parts):
    """By their paths the statements of all lists."""
    rows = [((), tree)]
    for path, part in parts.items():
        if part[0] == "block":
            rows.append(((*path, 1), part[1]))
        elif part[0] == "try":
            rows.append(((*path, 1), part[1]))
            rows.append(((*path, 3), part[3]))
        elif part[0] == "fn" and not is_give(part[2]):
            rows.append(((*path, 2), part[2]))
    return {path: statements for path, statements in rows}


def let_of(pair):
    """The path of the let of the pair at a path."""
    return pair[:-2]


def pairs_of(parts, rows):
    """By the paths of all pairs of lets the uses of what they let, of the rows of bindings."""
    told = {}
    for _, place, uses in rows:
        let = place[:-3]
        if let in parts and parts[let][0] == "let":
            told[place[:-1]] = uses
    return told


def test_steps(part, is_test):
    """The steps from a part, itself at a test place or not, to what is at one in it."""
    word = part[0]
    if word in ("if", "while", "not"):
        return (1,)
    if word in ("and", "or"):
        return (1, 2) if is_test else ()
    if word == "pick":
        return (1, 2, 3) if is_test else (1,)
    return ()


def tests_of(parts):
    """The paths of all expressions of which only matters whether they are 0."""
    told = {}
    for path, part in parts.items():
        for step in test_steps(part, path in told):
            place = (*path, step)
            told[place] = True
    return told
