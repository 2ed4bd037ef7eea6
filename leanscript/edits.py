"""Trees with changes at some places, and whence what stands in them comes."""

from leanscript.shapes import SHAPES


class Old:
    """What stands at a path of the tree as it was."""

    def __init__(self, path):
        self.path = path


class Change:
    """The things, made of old and new ones, that come in the stead of what stands at a path,
    and the paths of the tree as it was from which the new ones come."""

    def __init__(self, things, whence):
        self.things = things
        self.whence = whence


class Trail:
    """What is followed from a tree to the one behind changes: for paths of that the stretches from which they come."""

    def __init__(self, tree, changes, origins):
        self.whole = tree
        self.changes = changes
        self.origins = origins
        self.told = {}


def instead(path, thing):
    """The change of what stands at a path to a thing: what is new in that comes whence it came."""
    return {path: Change([thing], [path])}


def thing_at(tree, path):
    """What stands at a path that leads to something."""
    for step in path:
        tree = tree[step]
    return tree


def built(tree, thing):
    """A thing made of old and new ones, put together."""
    if isinstance(thing, Old):
        return thing_at(tree, thing.path)
    if isinstance(thing, tuple):
        return tuple([built(tree, inner) for inner in thing])
    return thing


def remade(tree, thing, path, changes, around):
    """The thing at a path, in which something changes; around are all paths at which that is so."""
    told = []
    for at, inner in enumerate(thing):
        here = (*path, at)
        if here in changes:
            told.extend([built(tree, new) for new in changes[here].things])
        elif here in around:
            told.append(remade(tree, inner, here, changes, around))
        else:
            told.append(inner)
    return tuple(told)


def changed(tree, changes):
    """A tree with changes, a dict by their paths; one that lies within another one changes nothing."""
    around = {path[:many]: True for path in changes for many in range(len(path))}
    return remade(tree, tree, (), changes, around)


def least_stretch(stretches):
    """The least stretch that holds some."""
    return (min([first for first, _ in stretches]), max([last for _, last in stretches]))


def follow(trail, thing, path, place):
    """Follows a thing that stood at a path to its place behind the changes."""
    if path in trail.origins:
        trail.told[place] = trail.origins[path]
    if not isinstance(thing, tuple):
        return
    many = 0
    for at, inner in enumerate(thing):
        here = (*path, at)
        if here in trail.changes:
            follow_change(trail, trail.changes[here], place, many)
            many += len(trail.changes[here].things)
        else:
            follow(trail, inner, here, (*place, many))
            many += 1


def follow_change(trail, change, place, many):
    """Follows the things of a change, which stand from a number on in what is at a place."""
    stretch = least_stretch([trail.origins[path] for path in change.whence])
    for at, thing in enumerate(change.things, many):
        follow_made(trail, thing, stretch, (*place, at))


def follow_made(trail, thing, stretch, place):
    """Follows a thing made of old and new ones; the new parts come from a stretch."""
    if isinstance(thing, Old):
        follow(trail, thing_at(trail.whole, thing.path), thing.path, place)
    elif isinstance(thing, tuple):
        if len(thing) > 0 and isinstance(thing[0], str) and thing[0] in SHAPES:
            trail.told[place] = stretch
        for at, inner in enumerate(thing):
            follow_made(trail, inner, stretch, (*place, at))


def origins_behind(tree, changes, origins):
    """For the paths of a tree behind changes the stretches from which they come, by those ahead."""
    trail = Trail(tree, changes, origins)
    follow(trail, tree, (), ())
    return trail.told
