"""Trees: what is one, and what stands in it."""

from leanscript.errors import NoPath, NoTree
from leanscript.forms import is_whole, must_have_form
from leanscript.layout import laid_out, meaning, names_by_room

MOST_PARTS = 300
MOST_DEPTH = 16
MOST_BINDINGS = 100


def names_twice(layout):
    """The faults of the names that a let puts in a room that has them already."""
    told = []
    known = {}
    for path, name, room in layout.names:
        if (room, name) in known:
            told.append((path, "twice"))
        known[(room, name)] = True
    return told


def is_open_end(statement):
    """Whether an else behind a statement would belong to an if in it."""
    while statement is not None:
        if statement[0] == "if":
            statement = statement[3]
        elif statement[0] == "while":
            statement = statement[2]
        else:
            return False
    return True


def fault_in_place(layout, named, part, room):
    """Why a part may not stand in its room: the text without signs where it may."""
    if part[0] == "return" and not layout.rooms[room][2]:
        return "return"
    if part[0] == "set" and meaning(layout, named, room, part[1]) == -1:
        return "set"
    if part[0] == "if" and part[3] is not None and is_open_end(part[2]):
        return "else"
    return ""


def must_fit(layout):
    """Refuses by the fault with the least path that the parts have among one another."""
    named = names_by_room(layout)
    faults = names_twice(layout)
    for path, part, _, room in layout.parts:
        why = fault_in_place(layout, named, part, room)
        if why != "":
            faults.append((path, why))
    if faults:
        path, why = min(faults)
        raise NoTree(path, why)


def is_great(layout):
    if len(layout.parts) > MOST_PARTS or len(layout.names) > MOST_BINDINGS:
        return True
    return any([depth > MOST_DEPTH for _, _, depth, _ in layout.parts])


def must_hold_together(thing):
    """Refuses a thing that has the form of a tree, but is none."""
    layout = laid_out(thing)
    must_fit(layout)
    if is_great(layout):
        raise NoTree((), "great")


def must_tree(thing):
    """Refuses anything that is no tree."""
    must_have_form(thing)
    must_hold_together(thing)


def is_tree(thing):
    """Whether anything is a tree."""
    try:
        must_tree(thing)
    except NoTree:
        return False
    return True


def holds_together(thing):
    """Whether a thing that has the form of a tree is one."""
    try:
        must_hold_together(thing)
    except NoTree:
        return False
    return True


def is_path(thing):
    """Whether anything is a tuple of whole numbers from 0 on."""
    return isinstance(thing, tuple) and all([is_whole(step) and step >= 0 for step in thing])


def part_at(tree, path):
    """What stands at a path in a tree."""
    must_tree(tree)
    if not is_path(path):
        raise NoPath("no tuple of whole numbers from 0 on")
    here = tree
    for step in path:
        if not isinstance(here, tuple) or step >= len(here):
            raise NoPath("nothing stands there")
        here = here[step]
    return here


def parts(tree):
    """The paths of all parts of a tree, rising."""
    must_tree(tree)
    return [path for path, _, _, _ in laid_out(tree).parts]
