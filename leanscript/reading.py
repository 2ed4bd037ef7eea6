"""Texts read: their trees, and where what stands in these stands in the text."""

from leanscript.parsing import parsed
from leanscript.trees import must_tree


def read_node(text):
    """The node of a text that is one of a tree."""
    node = parsed(text)
    must_tree(node.thing)
    return node


def read(text):
    """The tree of a text."""
    return read_node(text).thing


def spots(text):
    """Tuples (path, begin, end), rising, for all parts, and the names and properties with a path of their own."""
    told = []
    waiting = [((), read_node(text))]
    while waiting:
        path, node = waiting.pop()
        for steps, inner in node.inner:
            told.append(((*path, *steps), inner.begin, inner.end))
            waiting.append(((*path, *steps), inner))
    return sorted(told)
