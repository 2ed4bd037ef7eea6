"""Where the worths of bindings lie in the rooms of the machine."""

from leanscript.layout import laid_out, names_by_room


class Plan:
    """By numbers of rooms: named, around, made (whether it is a room of the machine, too), sizes;
    by numbers of bindings: slots; by paths: room_of (of parts), room_at (of rooms), slot_at (of let names and xs)."""

    def __init__(self, tree):
        layout = laid_out(tree)
        self.named = names_by_room(layout)
        self.around = [around for _, around, _ in layout.rooms]
        self.sizes = [len(names) for names in self.named]
        self.made = rooms_of_machine(layout, self.sizes)
        self.slots = slots_of_names(layout)
        self.room_of = {path: room for path, _, _, room in layout.parts}
        self.room_at = {room[0]: number for number, room in enumerate(layout.rooms)}
        self.slot_at = {name[0]: slot for name, slot in zip(layout.names, self.slots)}


def rooms_of_machine(layout, sizes):
    """For each room whether it is one of the machine: those with bindings, and each call's."""
    fns = {path: True for path, part, _, _ in layout.parts if part[0] == "fn"}
    return [size > 0 or room[0] in fns for size, room in zip(sizes, layout.rooms)]


def slots_of_names(layout):
    """For each binding its slot: as many as its room has bindings ahead of it."""
    told = []
    filled = [0 for _ in layout.rooms]
    for _, _, room in layout.names:
        told.append(filled[room])
        filled[room] += 1
    return told


def size_at(plan, path):
    """How many slots the room at a path has."""
    return plan.sizes[plan.room_at[path]]


def place_of(plan, path, name):
    """Where the binding lies that a name means in the part at a path: (up, at), None where it is outer."""
    room = plan.room_of[path]
    up = 0
    while room != -1:
        if name in plan.named[room]:
            return (up, plan.slots[plan.named[room][name]])
        if plan.made[room]:
            up += 1
        room = plan.around[room]
    return None
