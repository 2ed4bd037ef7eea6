"""Whether a thing has the form of a tree, each part and name by itself."""

from leanscript.errors import NoTree
from leanscript.shapes import EXPRESSIONS, SHAPES, STATEMENTS, TWO_SIGNS, is_give
from leanscript.words import is_name


def is_whole(thing):
    """Whether anything is a whole number, no truth."""
    return type(thing) is int


def is_number_in_tree(thing):
    return is_whole(thing) and 0 <= thing < 10 ** 18


def is_part(thing, starts):
    """Whether a thing is a tuple of one of some words, and of so many things as it takes."""
    if not isinstance(thing, tuple) or len(thing) == 0 or not isinstance(thing[0], str):
        return False
    return thing[0] in starts and len(thing) == 1 + len(SHAPES[thing[0]])


def is_of_kind(kind, thing):
    """Whether a thing is what its kind asks for, but for what is in it."""
    if kind == "expression":
        return is_part(thing, EXPRESSIONS)
    if kind == "statement":
        return is_part(thing, STATEMENTS)
    if kind == "perhaps":
        return thing is None or is_part(thing, STATEMENTS)
    if kind in ("pair", "field", "field again"):
        return isinstance(thing, tuple) and len(thing) == 2
    if kind == "pairs":
        return isinstance(thing, tuple) and len(thing) > 0
    return isinstance(thing, tuple)


def fault_of(kind, thing):
    """Why a thing isn't what stands there by its kind: the text without signs where it is."""
    if kind == "number":
        return "" if is_number_in_tree(thing) else "number"
    if kind == "sign":
        return "" if isinstance(thing, str) and thing in TWO_SIGNS else "sign"
    if kind in ("name", "name again"):
        if not is_name(thing):
            return "name"
        return "" if kind == "name" else "twice"
    return "" if is_of_kind(kind, thing) else "kind"


def kinds_of_names(xs):
    """For each of some things whether it is a name that stands ahead of it already."""
    known = {}
    kinds = []
    for x in xs:
        kinds.append("name again" if is_name(x) and x in known else "name")
        if is_name(x):
            known[x] = True
    return kinds


def kinds_of_fields(pairs):
    """For each pair of a record whether its property stands ahead of it already."""
    firsts = [pair[0] if is_of_kind("pair", pair) else None for pair in pairs]
    return ["field again" if kind == "name again" else "field" for kind in kinds_of_names(firsts)]


def kinds_within(kind, thing):
    """The kinds of the things straight in a thing, from its first on; None is looked at no further."""
    if kind in ("expression", "statement"):
        return [None, *SHAPES[thing[0]]]
    if kind == "perhaps":
        return [] if thing is None else [None, *SHAPES[thing[0]]]
    if kind == "body" and is_give(thing):
        return [None, "expression"]
    if kind in ("statements", "body"):
        return ["statement" for _ in thing]
    if kind == "expressions":
        return ["expression" for _ in thing]
    if kind == "pairs":
        return ["pair" for _ in thing]
    if kind == "fields":
        return kinds_of_fields(thing)
    if kind == "names":
        return kinds_of_names(thing)
    if kind in ("pair", "field"):
        return ["name", "expression"]
    if kind == "field again":
        return ["name again", "expression"]
    return []


def must_have_form(thing):
    """Refuses by the fault with the least path that a thing has by itself."""
    # No recursion: a text within its bounds may be put together to thousands of levels.
    waiting = [((), "statements", thing)]
    while waiting:
        path, kind, here = waiting.pop()
        why = fault_of(kind, here)
        if why != "":
            raise NoTree(path, why)
        kinds = kinds_within(kind, here)
        for at in range(len(kinds) - 1, -1, -1):
            if kinds[at] is not None:
                waiting.append(((*path, at), kinds[at], here[at]))
