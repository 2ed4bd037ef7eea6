"""How tightly expressions bind."""

from leanscript.shapes import is_give

# The signs with two sides, the loosest first.
LEVELS = {
    "||": 1, "&&": 2,
    "==": 3, "!=": 3,
    "<": 4, ">": 4, "<=": 4, ">=": 4,
    "+": 5, "-": 5,
    "*": 6, "/": 6, "~": 6,
}
LOOSEST = 0
AHEAD = 7
BEHIND = 8
TIGHTEST = 9


def level_of(part):
    """How tightly an expression binds."""
    word = part[0]
    if word == "pick":
        return LOOSEST
    if word == "fn":
        return LOOSEST if is_give(part[2]) else TIGHTEST
    if word == "or":
        return LEVELS["||"]
    if word == "and":
        return LEVELS["&&"]
    if word == "two":
        return LEVELS[part[1]]
    if word in ("neg", "not"):
        return AHEAD
    if word in ("get", "call"):
        return BEHIND
    return TIGHTEST
