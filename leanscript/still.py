"""Uses that are sure, and expressions that are still."""

from leanscript.errors import NoPath
from leanscript.rooms import bindings_in, layout_of
from leanscript.shapes import EXPRESSIONS, inner_parts
from leanscript.trees import is_path

STILL_OF_STILL = ("rec", "not", "and", "or", "pick")


def is_behind_let(lets, place, use):
    """Whether a use lies behind what gives its binding, which is let at a place, a worth; an x has one at once."""
    let = place[:-3]
    if let not in lets:
        return True
    many = len(let)
    if use[:many] == let:
        return use[many + 1] > place[-2]
    # Whatever means a let's binding from outside of the let lies in the same list.
    return use[many - 1] > let[-1]


def sure_uses(layout):
    """For the path of each use of a binding whether it is sure, as a dict."""
    lets = {path: True for path, part, _, _ in layout.parts if part[0] == "let"}
    return {use: is_behind_let(lets, place, use) for _, place, uses in bindings_in(layout) for use in uses}


def is_still_part(sure, part, path):
    """Whether an expression is still, by what is told of the uses."""
    if part[0] in ("num", "fn"):
        return True
    if part[0] == "name":
        return sure.get(path, False)
    if part[0] in STILL_OF_STILL or part[0] == "two" and part[1] in ("==", "!="):
        return all([is_still_part(sure, inner, (*path, *steps)) for steps, inner in inner_parts(part)])
    return False


def is_sure(tree, path):
    """Whether a use of a binding is sure."""
    sure = sure_uses(layout_of(tree))
    if not is_path(path) or path not in sure:
        raise NoPath("no use of a binding stands there")
    return sure[path]


def is_still(tree, path):
    """Whether an expression is still."""
    layout = layout_of(tree)
    found = {place: part for place, part, _, _ in layout.parts if part[0] in EXPRESSIONS}
    if not is_path(path) or path not in found:
        raise NoPath("no expression stands there")
    return is_still_part(sure_uses(layout), found[path], path)
