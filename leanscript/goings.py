"""What can go from a tree, and trees without it."""

from leanscript.edits import Change, changed
from leanscript.errors import NoTurning
from leanscript.reach import unreached_pairs, waiting_pairs
from leanscript.still import is_still_part
from leanscript.survey import Survey, let_of, survey_of
from leanscript.trees import is_path
from leanscript.writing import tight_text


def ends_list(part):
    """Whether a statement ends the list in which it stands."""
    word = part[0]
    if word == "block":
        return is_ended(part[1])
    if word == "if":
        return part[3] is not None and ends_list(part[2]) and ends_list(part[3])
    if word == "try":
        return is_ended(part[1]) and is_ended(part[3])
    return word in ("return", "fail")


def is_ended(statements):
    return any([ends_list(part) for part in statements])


def lies_in(path, place):
    """Whether what is at a path is at a place or in what is there."""
    return path[:len(place)] == place


def is_needed(survey, path, part):
    """Whether a statement lets a name in the room of its list that has a use outside of the statement."""
    if part[0] != "let":
        return False
    pairs = [(*path, 1, at) for at in range(len(part[1]))]
    return any([not lies_in(use, path) for pair in pairs for use in survey.pairs[pair]])


def behind_end(survey):
    """The paths of the statements behind one that ends their list, but for those that are needed."""
    told = []
    for path, statements in survey.lists.items():
        ends = [at for at, part in enumerate(statements) if ends_list(part)]
        if ends:
            behind = [((*path, at), part) for at, part in enumerate(statements) if at > ends[0]]
            told.extend([place for place, part in behind if not is_needed(survey, place, part)])
    return told


def why_gone(survey, path, part):
    """Why a part can go by itself: the text without signs where it can't."""
    if part[0] == "do" and is_still_part(survey.sure, part[1], (*path, 1)):
        return "still"
    if part == ("block", ()) and path[:-1] in survey.lists:
        return "empty"
    if part[0] == "while" and part[1] == ("num", 0):
        return "never"
    return ""


def unused_pairs(survey):
    """The paths of the waiting pairs that are used nowhere but in their own expressions."""
    pairs = waiting_pairs(survey)
    return [pair for pair in pairs if all([lies_in(use, (*pair, 1)) for use in pairs[pair]])]


def goings(survey):
    """Tuples (path, why) of what can go, rising, whatever becomes of the text's length."""
    told = [(path, "behind") for path in behind_end(survey)]
    told.extend([(path, "unreached") for path in unused_pairs(survey)])
    told.extend([(path, why_gone(survey, path, part)) for path, part in survey.parts.items()])
    return sorted([(path, why) for path, why in told if why != ""])


def going_statement(survey, path):
    """The change of a statement that goes: an s or t leaves an empty block, which comes whence it came."""
    return Change([] if path[:-1] in survey.lists else [("block", ())], [path])


def without_pairs(survey, pairs):
    """The changes by which pairs go, with each let that has no other ones."""
    by_let = {}
    for pair in pairs:
        by_let.setdefault(let_of(pair), []).append(pair)
    told = {}
    for let, rows in by_let.items():
        if len(rows) == len(survey.parts[let][1]):
            told[let] = going_statement(survey, let)
        else:
            for pair in rows:
                told[pair] = Change([], [let])
    return told


def going(survey, path):
    """The changes by which what can go at a path goes."""
    if path in survey.pairs:
        return without_pairs(survey, [path])
    return {path: going_statement(survey, path)}


def is_no_longer(survey, changes, outcome):
    """Whether the shortest text of the outcome of a going is no longer than that ahead of it."""
    # What stands in a list or a let leaves nothing; the empty block that an s or t leaves can be longer than that.
    if not any([len(change.things) > 0 for change in changes.values()]):
        return True
    return len(tight_text(outcome)) <= len(tight_text(survey.whole))


def going_kept(survey, path):
    """The changes by which what can go at a path goes, None where this makes the text longer."""
    changes = going(survey, path)
    return changes if is_no_longer(survey, changes, changed(survey.whole, changes)) else None


def gone(tree):
    """Tuples (path, why) of all that can go, rising."""
    survey = survey_of(tree)
    return [(path, why) for path, why in goings(survey) if going_kept(survey, path) is not None]


def going_at(survey, path):
    """The changes by which goes what stands at anything, refused where that can't go."""
    places = [place for place, _ in goings(survey)]
    if not is_path(path) or path not in places:
        raise NoTurning("nothing that can go stands there")
    changes = going_kept(survey, path)
    if changes is None:
        raise NoTurning("without it the text is longer")
    return changes


def without(tree, path):
    """The tree without what can go at a path."""
    return changed(tree, going_at(survey_of(tree), path))


def bare_changes(survey):
    """What changes next on the way to the bare tree, None where nothing does."""
    pairs = unreached_pairs(survey)
    if pairs:
        return without_pairs(survey, pairs)
    for path, _ in goings(survey):
        changes = going_kept(survey, path)
        if changes is not None:
            return changes
    return None


def bare(tree):
    """The tree without all that can go, one behind the other."""
    survey = survey_of(tree)
    changes = bare_changes(survey)
    while changes is not None:
        survey = Survey(changed(survey.whole, changes))
        changes = bare_changes(survey)
    return survey.whole
