"""Of what things the parts of a tree are made."""

EXPRESSIONS = ("num", "name", "get", "call", "rec", "fn", "neg", "not", "two", "and", "or", "pick")
STATEMENTS = ("let", "set", "put", "do", "if", "while", "return", "fail", "try", "out", "block")
TWO_SIGNS = ("+", "-", "*", "/", "~", "<", ">", "<=", ">=", "==", "!=")

# For each word of a part the kinds of the things behind it.
SHAPES = {
    "num": ("number",),
    "name": ("name",),
    "get": ("expression", "name"),
    "call": ("expression", "expressions"),
    "rec": ("fields",),
    "fn": ("names", "body"),
    "neg": ("expression",),
    "not": ("expression",),
    "two": ("sign", "expression", "expression"),
    "and": ("expression", "expression"),
    "or": ("expression", "expression"),
    "pick": ("expression", "expression", "expression"),
    "let": ("pairs",),
    "set": ("name", "expression"),
    "put": ("expression", "name", "expression"),
    "do": ("expression",),
    "if": ("expression", "statement", "perhaps"),
    "while": ("expression", "statement"),
    "return": ("expression",),
    "fail": ("expression",),
    "try": ("statements", "name", "statements"),
    "out": ("expression",),
    "block": ("statements",),
}


def is_give(body):
    """Whether the body of an fn, a tuple, is ("give", e)."""
    return len(body) == 2 and body[0] == "give"


def parts_within(kind, thing):
    """The parts straight in a thing of a kind, with the steps from it: tuples (steps, part)."""
    if kind in ("expression", "statement"):
        return [((), thing)]
    if kind == "perhaps" and thing is not None:
        return [((), thing)]
    if kind == "body" and is_give(thing):
        return [((1,), thing[1])]
    if kind in ("expressions", "statements", "body"):
        return [((at,), part) for at, part in enumerate(thing)]
    if kind in ("pairs", "fields"):
        return [((at, 1), pair[1]) for at, pair in enumerate(thing)]
    return []


def inner_parts(part):
    """The parts that lie straight in a part, in order, with the steps from it: tuples (steps, part)."""
    told = []
    for at, kind in enumerate(SHAPES[part[0]], 1):
        for steps, inner in parts_within(kind, part[at]):
            told.append(((at, *steps), inner))
    return told
