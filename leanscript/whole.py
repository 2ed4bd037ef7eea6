"""The whole: texts made short, with maps that lead back, and trees held against each other."""

from leanscript.edits import thing_at
from leanscript.leastnames import MOST_BINDINGS, least_names
from leanscript.naming import fair
from leanscript.properties import props_least
from leanscript.rooms import bindings, outers
from leanscript.supply import must_be_letters
from leanscript.teller import run
from leanscript.tracing import Trace
from leanscript.trees import must_tree


def short_naming(tree, letters):
    """A naming that costs least, or of too many bindings a fair one."""
    if len(bindings(tree)) > MOST_BINDINGS:
        return fair(tree, letters)
    return least_names(tree, letters)


def make_lean(trace):
    """Makes bare and lean what a trace stands at, again and again, till this makes its text no shorter."""
    size = len(trace.text()) + 1
    while len(trace.text()) < size:
        size = len(trace.text())
        trace.bare()
        trace.lean()


def shortened(text, letters, keep):
    """The trace behind all that makes a text short, and the texts on the way."""
    must_be_letters(letters)
    trace = Trace(text)
    told = [trace.text()]
    make_lean(trace)
    told.append(trace.text())
    trace.rename(short_naming(trace.tree(), letters))
    told.append(trace.text())
    trace.props(keep, props_least(trace.tree(), keep, letters))
    told.append(trace.text())
    return (trace, told)


def lean(text, letters, *, keep=()):
    """The short text of a text, and its map to that; the properties told stay."""
    trace, _ = shortened(text, letters, keep)
    return (trace.text(), trace.map())


def leaned(text, letters, *, keep=()):
    """The four texts on the way to the short one: as read, behind bare and lean, with other names, other properties."""
    _, told = shortened(text, letters, keep)
    return told


def runs_alike(one, other, many):
    """Whether by all ins by which the first tree's run isn't long the second one tells the same, in no more steps."""
    must_tree(one)
    must_tree(other)
    for ins in many:
        end, number, outs, steps = run(one, ins)
        if end != "long":
            other_end, other_number, other_outs, other_steps = run(other, ins)
            if (end, number, outs) != (other_end, other_number, other_outs) or other_steps > steps:
                return False
    return True


def sign_path(tree, use):
    """The path of the sign of text at a use: of an expression that of its name."""
    return use if isinstance(thing_at(tree, use), str) else (*use, 1)


class Names:
    """By the paths of a tree's names: the names that bindings are let by, and what those that are used mean,
    the path of a binding or an outer name."""

    def __init__(self, tree):
        rows = bindings(tree)
        self.lets = {place: name for name, place, _ in rows}
        means = [(use, place) for _, place, uses in rows for use in uses]
        means.extend([(use, name) for name, uses in outers(tree) for use in uses])
        self.meant = {sign_path(tree, use): meaning for use, meaning in means}


def are_like_signs(one, other, names, path):
    """Whether two things at a path, not both tuples, are alike, by the names of both trees."""
    if isinstance(one, tuple) or isinstance(other, tuple):
        return False
    ones, others = names
    if path in ones.lets:
        return True
    if path in ones.meant:
        return ones.meant[path] == others.meant[path]
    return one == other


def unlike_path(one, other, names, path):
    """The least path, from one of two things on, at which something isn't alike, None where there is none."""
    if not isinstance(one, tuple) or not isinstance(other, tuple):
        return None if are_like_signs(one, other, names, path) else path
    if len(one) != len(other):
        return path
    for at in range(len(one)):
        found = unlike_path(one[at], other[at], names, (*path, at))
        if found is not None:
            return found
    return None


def alike(one, other):
    """Whether two trees are one but for the names of their bindings, and which of these differ, or where they don't."""
    names = (Names(one), Names(other))
    found = unlike_path(one, other, names, ())
    if found is not None:
        return ("unlike", found)
    places = sorted(names[0].lets)
    return ("alike", [at for at, place in enumerate(places) if names[0].lets[place] != names[1].lets[place]])
