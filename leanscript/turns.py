"""What the turnings change, by the parts at which they are made and by their words."""

from leanscript.edits import Change, Old, instead
from leanscript.goings import without_pairs
from leanscript.shapes import is_give
from leanscript.worths import Failing, contrary, two_told

WORDS = ("reckon", "choose", "other", "double", "swap", "and", "join", "tail", "lets", "open", "give", "last", "test",
         "less", "carry")
CONTRARY = {"<": ">=", ">=": "<", ">": "<=", "<=": ">", "==": "!=", "!=": "=="}
ONE_EACH = ("do", "return", "fail", "out")
EMPTY_BLOCK = ("block", ())


def number_in(part):
    """The number for which a num or a neg of one stands, None for all else."""
    if part[0] == "num":
        return part[1]
    if part[0] == "neg" and part[1][0] == "num":
        return -part[1][1]
    return None


def reckoned_two(part):
    """The number of a two of numbers, None where there is none, or no num can tell it."""
    left, right = number_in(part[2]), number_in(part[3])
    if left is None or right is None:
        return None
    try:
        told = two_told(part[1], left, right)
    except Failing:
        return None
    return told if abs(told) < 10 ** 18 else None


def turns_of_two(survey, path, part):
    told = reckoned_two(part)
    if told is None:
        return {}
    return {"reckon": instead(path, ("num", told) if told >= 0 else ("neg", ("num", -told)))}


def turns_of_not(survey, path, part):
    inner = part[1]
    told = {}
    if inner[0] == "num":
        told["reckon"] = instead(path, ("num", contrary(inner[1])))
    if inner[0] == "two" and inner[1] in CONTRARY:
        told["other"] = instead(path, ("two", CONTRARY[inner[1]], Old((*path, 1, 2)), Old((*path, 1, 3))))
    if inner[0] == "not" and path in survey.tests:
        told["double"] = instead(path, Old((*path, 1, 1)))
    return told


def turns_of_and_or(survey, path, part):
    if part[1][0] != "num":
        return {}
    stays = (part[1][1] == 0) == (part[0] == "and")
    return {"choose": instead(path, Old((*path, 1 if stays else 2)))}


def turns_of_pick(survey, path, part):
    told = {}
    if part[1][0] == "num":
        told["choose"] = instead(path, Old((*path, 3 if part[1][1] == 0 else 2)))
    if part[1][0] == "not":
        told["swap"] = instead(path, ("pick", Old((*path, 1, 1)), Old((*path, 3)), Old((*path, 2))))
    return told


def turns_of_fn(survey, path, part):
    body = part[2]
    if is_give(body) or len(body) != 1 or body[0][0] != "return":
        return {}
    return {"give": instead(path, ("fn", Old((*path, 1)), ("give", Old((*path, 2, 0, 1)))))}


def chosen_of_if(path, part):
    """What an if of a num does."""
    at = 3 if part[1][1] == 0 else 2
    if part[at] is None:
        return EMPTY_BLOCK
    if part[at][0] == "let":
        return ("block", (Old((*path, at)),))
    return Old((*path, at))


def joined_if(path, part):
    """The one statement for an if of two like ones, None where there is none."""
    _, _, one, other = part
    test = Old((*path, 1))
    if one[0] == other[0] and one[0] in ONE_EACH:
        return (one[0], ("pick", test, Old((*path, 2, 1)), Old((*path, 3, 1))))
    if one[0] == "set" and other[0] == "set" and one[1] == other[1]:
        return ("set", Old((*path, 2, 1)), ("pick", test, Old((*path, 2, 2)), Old((*path, 3, 2))))
    return None


def turns_with_else(path, part):
    """The turnings of an if with an else, but for choose."""
    told = {}
    if part[1][0] == "not":
        told["swap"] = instead(path, ("if", Old((*path, 1, 1)), Old((*path, 3)), Old((*path, 2))))
    one = joined_if(path, part)
    if one is not None:
        told["join"] = instead(path, one)
    if part[3] == EMPTY_BLOCK:
        told["less"] = instead(path, ("if", Old((*path, 1)), Old((*path, 2)), None))
    return told


def statement_behind(survey, path):
    """The statement straight behind one in its list, None where there is none."""
    statements = survey.lists.get(path[:-1], ())
    return statements[path[-1] + 1] if path[-1] + 1 < len(statements) else None


def path_behind(path):
    return (*path[:-1], path[-1] + 1)


def both_instead(path, thing):
    """The changes of a statement and the one behind it to a thing, what is new in which comes from both."""
    behind = path_behind(path)
    return {path: Change([thing], [path, behind]), behind: Change([], [behind])}


def turns_without_else(survey, path, part):
    """The turnings of an if without an else, but for choose."""
    told = {}
    done = Old((*path, 2, 1))
    if part[2][0] == "do":
        only = ("or", Old((*path, 1, 1)), done) if part[1][0] == "not" else ("and", Old((*path, 1)), done)
        told["and"] = instead(path, ("do", only))
    if part[2] == EMPTY_BLOCK:
        told["test"] = instead(path, ("do", Old((*path, 1))))
    behind = statement_behind(survey, path)
    if part[2][0] == "return" and behind is not None and behind[0] == "return":
        other = Old((*path_behind(path), 1))
        told["tail"] = both_instead(path, ("return", ("pick", Old((*path, 1)), done, other)))
    return told


def turns_of_if(survey, path, part):
    told = turns_without_else(survey, path, part) if part[3] is None else turns_with_else(path, part)
    if part[1][0] == "num":
        told["choose"] = instead(path, chosen_of_if(path, part))
    return told


def turns_of_let(survey, path, part):
    other = statement_behind(survey, path)
    if other is None or other[0] != "let":
        return {}
    behind = path_behind(path)
    pairs = [Old((*path, 1, at)) for at in range(len(part[1]))]
    pairs.extend([Old((*behind, 1, at)) for at in range(len(other[1]))])
    return {"lets": both_instead(path, ("let", tuple(pairs)))}


def turns_of_block(survey, path, part):
    inner = part[1]
    if any([one[0] == "let" for one in inner]):
        return {}
    if path[:-1] not in survey.lists and len(inner) != 1:
        return {}
    return {"open": {path: Change([Old((*path, 1, at)) for at in range(len(inner))], [path])}}


def turns_of_return(survey, path, part):
    around = path[:-1]
    is_last = around in survey.lists and path[-1] == len(survey.lists[around]) - 1
    # An fn's body stands at 2 in it; no other list does in an expression.
    if not is_last or around[:-1] not in survey.parts or survey.parts[around[:-1]][0] != "fn" or part[1] != ("num", 0):
        return {}
    return {"last": {path: Change([], [path])}}


def turns_of_pair(survey, path):
    """The turning of a let's pair: of a num that each of its uses can tell by itself."""
    let = survey.parts[path[:-2]]
    worth = let[1][path[-1]][1]
    uses = survey.pairs[path]
    # The use of a set is its x, which is no part.
    if worth[0] != "num" or not all([use in survey.parts and survey.sure[use] for use in uses]):
        return {}
    told = without_pairs(survey, [path])
    for use in uses:
        told[use] = Change([("num", worth[1])], [use])
    return {"carry": told}


TURNS = {
    "two": turns_of_two,
    "not": turns_of_not,
    "and": turns_of_and_or,
    "or": turns_of_and_or,
    "pick": turns_of_pick,
    "fn": turns_of_fn,
    "if": turns_of_if,
    "let": turns_of_let,
    "block": turns_of_block,
    "return": turns_of_return,
}


def turns_at(survey, path):
    """For the words of all turnings of what stands at a path what they change, also where the outcome is no tree."""
    if path in survey.pairs:
        return turns_of_pair(survey, path)
    if path not in survey.parts or survey.parts[path][0] not in TURNS:
        return {}
    part = survey.parts[path]
    action = TURNS[part[0]]
    return action(survey, path, part)
