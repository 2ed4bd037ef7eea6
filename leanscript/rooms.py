"""The rooms of a tree, and what its names mean."""

from leanscript.layout import laid_out, meaning, names_by_room
from leanscript.trees import must_tree


def layout_of(tree):
    must_tree(tree)
    return laid_out(tree)


def used_names(layout):
    """The names in expressions and sets: tuples (path, name, room), rising."""
    told = []
    for path, part, _, room in layout.parts:
        if part[0] == "name":
            told.append((path, part[1], room))
        elif part[0] == "set":
            told.append(((*path, 1), part[1], room))
    return told


def bindings_in(layout):
    """Tuples (name, path, uses) of all bindings of a layout, by their paths."""
    named = names_by_room(layout)
    told = [(name, path, []) for path, name, _ in layout.names]
    for path, name, room in used_names(layout):
        number = meaning(layout, named, room, name)
        if number != -1:
            told[number][2].append(path)
    return told


def bindings(tree):
    """Tuples (name, path, uses) of all bindings, by their paths."""
    return bindings_in(layout_of(tree))


def outers(tree):
    """Tuples (name, uses) of all names that mean no binding, rising."""
    layout = layout_of(tree)
    named = names_by_room(layout)
    found = {}
    for path, name, room in used_names(layout):
        if meaning(layout, named, room, name) == -1:
            found.setdefault(name, []).append(path)
    return [(name, found[name]) for name in sorted(found)]


def rooms(tree):
    """Tuples (path, numbers of the bindings) of all rooms, rising."""
    layout = layout_of(tree)
    told = [(path, []) for path, _, _ in layout.rooms]
    for number, (_, _, room) in enumerate(layout.names):
        told[room][1].append(number)
    return sorted(told)
