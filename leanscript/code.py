"""Trees written as lines of the machine."""

from leanscript.shapes import inner_parts, is_give
from leanscript.plan import Plan, place_of, size_at
from leanscript.trees import must_tree


class Script:
    """Lines as far as they are written, and for each the path of the part for which it stands."""

    def __init__(self, tree):
        self.plan = Plan(tree)
        self.lines = []
        self.paths = []


def add_line(script, path, line):
    script.lines.append(line)
    script.paths.append(path)


def hold_line(script, path, word):
    """Adds a line of a word that leads on to a line that isn't known yet: tells its number."""
    add_line(script, path, (word, 0))
    return len(script.lines) - 1


def lead_here(script, held):
    """Lets a held line lead to the next line that comes."""
    script.lines[held] = (script.lines[held][0], len(script.lines))


def open_room(script, path, room):
    """Opens the room at a path, where it has bindings."""
    if size_at(script.plan, room) > 0:
        add_line(script, path, ("open", size_at(script.plan, room)))


def shut_room(script, path, room):
    if size_at(script.plan, room) > 0:
        add_line(script, path, ("shut",))


def last_line(script, part, path):
    """The line of a part that stands behind those of all parts in it."""
    word = part[0]
    if word == "get":
        return ("get", part[2])
    if word == "call":
        return ("call", len(part[2]))
    if word == "rec":
        return ("rec", tuple([k for k, _ in part[1]]))
    if word == "two":
        return ("two", part[1])
    if word == "set":
        up, at = place_of(script.plan, path, part[1])
        return ("give", up, at)
    if word == "put":
        return ("put", part[2])
    if word == "do":
        return ("drop",)
    return (word,)


def add_plain(script, part, path):
    """Adds a part of which all that is in it is done first, in order."""
    for steps, inner in inner_parts(part):
        add_expression(script, inner, (*path, *steps))
    add_line(script, path, last_line(script, part, path))


def add_name(script, part, path):
    place = place_of(script.plan, path, part[1])
    if place is None:
        add_line(script, path, ("ins", part[1]))
    else:
        up, at = place
        add_line(script, path, ("take", up, at))


def add_fn(script, part, path):
    # The body stands where the function is made, so what comes to it from ahead goes around it.
    around = hold_line(script, path, "jump")
    begin = len(script.lines)
    if is_give(part[2]):
        add_expression(script, part[2][1], (*path, 2, 1))
    else:
        add_statements(script, part[2], (*path, 2))
        add_line(script, path, ("num", 0))
    add_line(script, path, ("return",))
    lead_here(script, around)
    add_line(script, path, ("fn", begin, len(part[1]), size_at(script.plan, path)))


def add_and_or(script, part, path):
    add_expression(script, part[1], (*path, 1))
    behind = hold_line(script, path, part[0])
    add_expression(script, part[2], (*path, 2))
    lead_here(script, behind)


def add_pick(script, part, path):
    add_expression(script, part[1], (*path, 1))
    other = hold_line(script, path, "if")
    add_expression(script, part[2], (*path, 2))
    behind = hold_line(script, path, "jump")
    lead_here(script, other)
    add_expression(script, part[3], (*path, 3))
    lead_here(script, behind)


def add_expression(script, part, path):
    word = part[0]
    if word == "num":
        add_line(script, path, ("num", part[1]))
    elif word == "name":
        add_name(script, part, path)
    elif word == "fn":
        add_fn(script, part, path)
    elif word in ("and", "or"):
        add_and_or(script, part, path)
    elif word == "pick":
        add_pick(script, part, path)
    else:
        add_plain(script, part, path)


def add_let(script, part, path):
    for at, pair in enumerate(part[1]):
        add_expression(script, pair[1], (*path, 1, at, 1))
        place = (*path, 1, at, 0)
        add_line(script, path, ("first", script.plan.slot_at[place]))


def add_alone(script, part, path):
    """Adds a statement that stands as an s or t: a let there is a room of its own."""
    if part[0] == "let":
        open_room(script, path, path)
        add_let(script, part, path)
        shut_room(script, path, path)
    else:
        add_statement(script, part, path)


def add_if(script, part, path):
    add_expression(script, part[1], (*path, 1))
    other = hold_line(script, path, "if")
    add_alone(script, part[2], (*path, 2))
    if part[3] is None:
        lead_here(script, other)
        return
    behind = hold_line(script, path, "jump")
    lead_here(script, other)
    add_alone(script, part[3], (*path, 3))
    lead_here(script, behind)


def add_while(script, part, path):
    begin = len(script.lines)
    add_line(script, path, ("step",))
    add_expression(script, part[1], (*path, 1))
    behind = hold_line(script, path, "if")
    add_alone(script, part[2], (*path, 2))
    add_line(script, path, ("jump", begin))
    lead_here(script, behind)


def add_try(script, part, path):
    place = (*path, 2)
    caught = hold_line(script, path, "try")
    open_room(script, path, (*path, 1))
    add_statements(script, part[1], (*path, 1))
    shut_room(script, path, (*path, 1))
    add_line(script, path, ("tried",))
    behind = hold_line(script, path, "jump")
    lead_here(script, caught)
    open_room(script, path, (*path, 3))
    add_line(script, path, ("first", script.plan.slot_at[place]))
    add_statements(script, part[3], (*path, 3))
    shut_room(script, path, (*path, 3))
    lead_here(script, behind)


def add_block(script, part, path):
    open_room(script, path, path)
    add_statements(script, part[1], (*path, 1))
    shut_room(script, path, path)


def add_statement(script, part, path):
    word = part[0]
    if word == "let":
        add_let(script, part, path)
    elif word == "if":
        add_if(script, part, path)
    elif word == "while":
        add_while(script, part, path)
    elif word == "try":
        add_try(script, part, path)
    elif word == "block":
        add_block(script, part, path)
    else:
        add_plain(script, part, path)


def add_statements(script, statements, path):
    for at, part in enumerate(statements):
        add_statement(script, part, (*path, at))


def script_of(tree):
    """The whole script of anything, which must be a tree."""
    must_tree(tree)
    script = Script(tree)
    open_room(script, (), ())
    add_statements(script, tree, ())
    shut_room(script, (), ())
    add_line(script, (), ("end",))
    return script


def code(tree):
    """Lines by which the machine does what a tree does."""
    return script_of(tree).lines


def led(tree):
    """For each line of a tree's code the path of the part for which it stands, () where it stands for none."""
    return script_of(tree).paths


def code_slots(tree):
    """For each binding the slot in which its worth lies."""
    must_tree(tree)
    return Plan(tree).slots
