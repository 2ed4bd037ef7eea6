"""Turnings: steps by which a tree becomes another one that runs alike."""

from leanscript.edits import changed
from leanscript.errors import NoTurning
from leanscript.survey import survey_of
from leanscript.trees import holds_together, is_path
from leanscript.turns import turns_at


def all_turns(survey):
    """Tuples (path, word, changes) of all turnings, rising, also of those the outcome of which is no tree."""
    told = []
    for path in sorted([*survey.parts, *survey.pairs]):
        turns = turns_at(survey, path)
        told.extend([(path, word, turns[word]) for word in sorted(turns)])
    return told


def turnings(tree):
    """Tuples (path, word) of all turnings that may be made, rising."""
    survey = survey_of(tree)
    return [(path, word) for path, word, changes in all_turns(survey) if holds_together(changed(tree, changes))]


def turn_at(survey, path, word):
    """The changes of the turning of anything by anything, refused where there is none."""
    turns = turns_at(survey, path) if is_path(path) else {}
    if not isinstance(word, str) or word not in turns:
        raise NoTurning("no turning of that word may be made there")
    if not holds_together(changed(survey.whole, turns[word])):
        raise NoTurning("what comes is no tree")
    return turns[word]


def turned(tree, path, word):
    """The outcome of a turning."""
    return changed(tree, turn_at(survey_of(tree), path, word))
