"""Pairs of lets that wait, and which of them are reached."""

from leanscript.still import is_still_part
from leanscript.survey import survey_of
from leanscript.trees import is_path


def waiting_pairs(survey):
    """For the paths of the pairs that wait the uses of their bindings, rising."""
    told = {}
    for pair, uses in survey.pairs.items():
        place = (*pair, 1)
        if is_still_part(survey.sure, survey.parts[place], place):
            told[pair] = uses
    return told


def holder_of(pairs, use):
    """The innermost of some pairs in whose expression a use lies, None where there is none."""
    for many in range(len(use) - 1, 0, -1):
        if use[:many] in pairs:
            return use[:many]
    return None


def holders_of(pairs):
    """For each use of the bindings of some pairs its holder among these."""
    return {use: holder_of(pairs, use) for uses in pairs.values() for use in uses}


def reached_pairs(pairs):
    """For each waiting pair that is reached a use by which it is so, each told behind those by which it is."""
    holders = holders_of(pairs)
    told = {}
    many = -1
    while many < len(told):
        many = len(told)
        for pair, uses in pairs.items():
            ways = [use for use in uses if holders[use] is None or holders[use] in told]
            if ways and pair not in told:
                told[pair] = ways[0]
    return told


def unreached_pairs(survey):
    """The paths of the waiting pairs that aren't reached, rising."""
    pairs = waiting_pairs(survey)
    found = reached_pairs(pairs)
    return [pair for pair in pairs if pair not in found]


def reach(tree):
    """Tuples (path, use) of all pairs that are reached, with a use by which they are so."""
    found = reached_pairs(waiting_pairs(survey_of(tree)))
    return [(pair, found[pair]) for pair in found]


def is_row(thing):
    """Whether anything is a tuple of two paths."""
    return isinstance(thing, tuple) and len(thing) == 2 and is_path(thing[0]) and is_path(thing[1])


def are_rows_of_reach(pairs, rows):
    """Whether some tuples (path, use) each tell another of some waiting pairs, with a use by which it is reached."""
    holders = holders_of(pairs)
    told = {}
    for pair, use in rows:
        if pair not in pairs or pair in told or use not in pairs[pair]:
            return False
        if holders[use] is not None and holders[use] not in told:
            return False
        told[pair] = True
    return True


def reach_judged(tree, thing):
    """Whether anything is a list of all pairs that are reached, each with a use by which it is so."""
    pairs = waiting_pairs(survey_of(tree))
    if not isinstance(thing, list) or not all([is_row(row) for row in thing]):
        return False
    return are_rows_of_reach(pairs, thing) and len(thing) == len(reached_pairs(pairs))


def unreached(tree):
    """The paths of the pairs that wait, but aren't reached, rising."""
    return unreached_pairs(survey_of(tree))
