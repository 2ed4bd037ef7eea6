"""Trees to which turnings and goings lead, and those of the shortest texts."""

from leanscript.edits import changed
from leanscript.errors import NoTurning, TooMany
from leanscript.goings import going, going_at, goings, is_no_longer
from leanscript.survey import Survey
from leanscript.trees import holds_together, is_path, is_tree, must_tree
from leanscript.turnings import all_turns, turn_at
from leanscript.writing import tight_text

GONE = "gone"
MOST_TREES = 200


def rows_of_steps(survey):
    """Tuples (path, word, changes) of all turnings and goings, rising, also of those that may not be made."""
    told = {(path, word): changes for path, word, changes in all_turns(survey)}
    for path, _ in goings(survey):
        told[(path, GONE)] = going(survey, path)
    return [(*step, told[step]) for step in sorted(told)]


def may_be_made(survey, word, changes, outcome):
    """Whether a turning or going with its outcome may be made."""
    if word == GONE:
        return is_no_longer(survey, changes, outcome)
    return holds_together(outcome)


def first_leaner(survey):
    """The first (path, word, changes, outcome) the text of which is shorter, None where there is none."""
    size = len(tight_text(survey.whole))
    for path, word, changes in rows_of_steps(survey):
        tree = changed(survey.whole, changes)
        if may_be_made(survey, word, changes, tree) and len(tight_text(tree)) < size:
            return (path, word, changes, tree)
    return None


def leaner(tree):
    """The tree behind the first steps that make its text shorter, till there is none."""
    must_tree(tree)
    found = first_leaner(Survey(tree))
    while found is not None:
        tree = found[3]
        found = first_leaner(Survey(tree))
    return tree


def outcomes(tree):
    """Tuples (step, outcome, its text) of all to which turnings and goings of what is known to be a tree lead,
    each once, with the least step, rising by these."""
    survey = Survey(tree)
    known = []
    told = []
    for path, word, changes in rows_of_steps(survey):
        other = changed(tree, changes)
        if other not in known and may_be_made(survey, word, changes, other):
            known.append(other)
            told.append(((path, word), other, tight_text(other)))
    return told


def trees_reached(tree):
    """Tuples (length of the text, text, tree, steps to it) of all trees to which steps lead, itself first.

    Those of fewer steps come first, of as many those of the lesser steps: so each is met first by its least ones.
    """
    text = tight_text(tree)
    rows = [(len(text), text, tree, ())]
    known = {text: True}
    now = 0
    while now < len(rows):
        _, _, here, steps = rows[now]
        for step, other, other_text in outcomes(here):
            # Unlike trees have unlike texts.
            if other_text not in known:
                known[other_text] = True
                rows.append((len(other_text), other_text, other, (*steps, step)))
            if len(rows) > MOST_TREES:
                raise TooMany("more than 200 trees")
        now += 1
    return rows


def rows_by_text(tree):
    """What trees_reached tells of anything that must be a tree, by the lengths of the texts, then by these."""
    must_tree(tree)
    return sorted(trees_reached(tree), key=lambda row: (row[0], row[1]))


def all_turned(tree):
    """All trees to which turnings and goings lead, itself too, by their texts."""
    return [row[2] for row in rows_by_text(tree)]


def least_turned(tree):
    """The first of all trees to which steps lead, and the first of the shortest lists of steps to it."""
    _, _, other, steps = rows_by_text(tree)[0]
    return (other, list(steps))


def is_step(thing):
    """Whether anything is a tuple of a path and a word."""
    return isinstance(thing, tuple) and len(thing) == 2 and is_path(thing[0]) and isinstance(thing[1], str)


def changes_of_step(survey, path, word):
    """What a turning or going of anything by anything changes, refused where it may not be made."""
    if isinstance(word, str) and word == GONE:
        return going_at(survey, path)
    return turn_at(survey, path, word)


def tree_behind(tree, steps):
    """The tree to which steps lead from a tree, None where one of them may not be made."""
    for path, word in steps:
        survey = Survey(tree)
        try:
            changes = changes_of_step(survey, path, word)
        except NoTurning:
            return None
        tree = changed(tree, changes)
    return tree


def steps_judged(tree, steps, other):
    """Whether anything is a list of steps that lead from one tree to another one."""
    must_tree(tree)
    must_tree(other)
    if not isinstance(steps, list) or not all([is_step(step) for step in steps]):
        return False
    return tree_behind(tree, steps) == other


def are_closed(trees):
    """Whether of some trees each but the first comes by a step from one ahead, and none that a step makes lacks."""
    texts = [tight_text(tree) for tree in trees]
    held = {text: True for text in texts}
    come = {texts[0]: True}
    for tree, text in zip(trees, texts):
        if text not in come:
            return False
        for _, _, other in outcomes(tree):
            if other not in held:
                return False
            come[other] = True
    return len(held) == len(texts)


def closed(tree, thing):
    """Whether anything is a list of a tree and of all to which steps lead, each behind one from which it comes."""
    must_tree(tree)
    if not isinstance(thing, list) or len(thing) == 0 or not all([is_tree(one) for one in thing]):
        return False
    return thing[0] == tree and are_closed(thing)
