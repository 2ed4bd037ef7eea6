"""The parts of a tree, the rooms in which they lie, and the names that are put in these."""

from leanscript.shapes import inner_parts


class Layout:
    """Parts: (path, part, depth, room), rising; names: (path, name, room), rising;
    rooms: (path, room around, whether an fn is around), as they are come to. A room is told by its number."""

    def __init__(self):
        self.parts = []
        self.names = []
        self.rooms = [((), -1, False)]


def rooms_made(part):
    """The rooms that a part makes: tuples (step to what lies in it, steps to the room)."""
    word = part[0]
    if word == "block":
        return [(1, ())]
    if word == "fn":
        return [(2, ())]
    if word == "try":
        return [(1, (1,)), (3, (3,))]
    if word in ("if", "while"):
        return [(at, (at,)) for at in range(2, len(part)) if part[at] is not None and part[at][0] == "let"]
    return []


def add_rooms(layout, path, part, room):
    """Adds the rooms that a part makes: tells for the step to what lies in one its number."""
    inner = {}
    for step, steps in rooms_made(part):
        inner[step] = len(layout.rooms)
        in_fn = part[0] == "fn" or layout.rooms[room][2]
        layout.rooms.append(((*path, *steps), room, in_fn))
    return inner


def add_names(layout, path, part, room, inner):
    """Adds the names that a part puts in a room: its own, or for a let that in which it stands."""
    if part[0] == "let":
        for at, pair in enumerate(part[1]):
            layout.names.append(((*path, 1, at, 0), pair[0], room))
    elif part[0] == "fn":
        for at, x in enumerate(part[1]):
            layout.names.append(((*path, 1, at), x, inner[2]))
    elif part[0] == "try":
        layout.names.append(((*path, 2), part[2], inner[3]))


def laid_out(tree):
    """The layout of a thing that has the form of a tree."""
    layout = Layout()
    waiting = [((at,), tree[at], 1, 0) for at in range(len(tree) - 1, -1, -1)]
    while waiting:
        path, part, depth, room = waiting.pop()
        layout.parts.append((path, part, depth, room))
        inner = add_rooms(layout, path, part, room)
        add_names(layout, path, part, room, inner)
        for steps, child in reversed(inner_parts(part)):
            waiting.append(((*path, *steps), child, depth + 1, inner.get(steps[0], room)))
    layout.names = sorted(layout.names)
    return layout


def names_by_room(layout):
    """For each room a dict that leads its names to the numbers of their bindings."""
    told = [{} for _ in layout.rooms]
    for number, (_, name, room) in enumerate(layout.names):
        told[room].setdefault(name, number)
    return told


def meaning(layout, named, room, name):
    """The number of the binding that a name means in a room, -1 where none has it."""
    while room != -1:
        if name in named[room]:
            return named[room][name]
        room = layout.rooms[room][1]
    return -1
