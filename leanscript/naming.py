"""Namings of the bindings of a tree: which can be, what they cost, and one that is fair."""

from leanscript.errors import NoNaming
from leanscript.exchange import with_names
from leanscript.layout import meaning, names_by_room
from leanscript.rooms import bindings, layout_of, used_names
from leanscript.supply import first_names, must_be_letters
from leanscript.words import is_name


def pairs_of_rooms(by_room):
    """The pairs of bindings of one room."""
    told = []
    for names in by_room:
        numbers = sorted(list(names.values()))
        told.extend([(i, j) for i in numbers for j in numbers if i < j])
    return told


def pairs_of_uses(layout, by_room):
    """The pairs of a binding and another one, ahead of whose room a use of the first one comes to its own."""
    told = []
    for _, name, room in used_names(layout):
        number = meaning(layout, by_room, room, name)
        if number != -1:
            while room != layout.names[number][2]:
                told.extend([(min(number, other), max(number, other)) for other in by_room[room].values()])
                room = layout.rooms[room][1]
    return told


def hinder(tree):
    """The pairs of bindings that can't have one name, rising."""
    layout = layout_of(tree)
    by_room = names_by_room(layout)
    return sorted(set([*pairs_of_rooms(by_room), *pairs_of_uses(layout, by_room)]))


def barred(tree):
    """For each binding the outer names that stand in its room, rising."""
    layout = layout_of(tree)
    by_room = names_by_room(layout)
    found = [{} for _ in layout.names]
    for _, name, room in used_names(layout):
        if meaning(layout, by_room, room, name) == -1:
            while room != -1:
                for number in by_room[room].values():
                    found[number][name] = True
                room = layout.rooms[room][1]
    return [sorted(names) for names in found]


def must_be_naming(tree, naming):
    """Refuses anything that is no naming that a tree can have."""
    many = len(bindings(tree))
    if not isinstance(naming, list) or len(naming) != many or not all([is_name(name) for name in naming]):
        raise NoNaming()
    for i, j in hinder(tree):
        if naming[i] == naming[j]:
            raise NoNaming(i, j)
    for i, names in enumerate(barred(tree)):
        if naming[i] in names:
            raise NoNaming(i, naming[i])


def named(tree, naming):
    """The tree with the names of a naming."""
    must_be_naming(tree, naming)
    names = {}
    for (_, path, uses), name in zip(bindings(tree), naming):
        for place in (path, *uses):
            names[place] = name
    return with_names(tree, (), names)


def counts(tree):
    """For each binding how often its name is written: where it is let, and at each use."""
    return [1 + len(uses) for _, _, uses in bindings(tree)]


def cost(tree, naming):
    """How many signs the names of a naming take."""
    must_be_naming(tree, naming)
    return sum([len(name) * count for name, count in zip(naming, counts(tree))])


def hindering(tree):
    """For each binding the numbers of those that hinder it, rising."""
    told = [[] for _ in bindings(tree)]
    for i, j in hinder(tree):
        told[i].append(j)
        told[j].append(i)
    return told


def fair(tree, letters):
    """A naming that gives short names to what is written often."""
    foes = hindering(tree)
    bars = barred(tree)
    must_be_letters(letters)
    naming = [None for _ in foes]
    for _, number in sorted([(-count, number) for number, count in enumerate(counts(tree))]):
        taken = [*bars[number], *[naming[foe] for foe in foes[number]]]
        # One name more than may be taken, so one of them is free.
        names = first_names(letters, len(taken) + 1)
        naming[number] = [name for name in names if name not in taken][0]
    return naming
