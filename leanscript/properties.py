"""The properties of a tree, and namings of them."""

from leanscript.errors import NoNaming
from leanscript.exchange import with_names
from leanscript.rooms import layout_of
from leanscript.supply import first_names, must_be_letters
from leanscript.words import is_name


def places_of_properties(tree):
    """Tuples (path, k) of all places at which a property stands."""
    told = []
    for path, part, _, _ in layout_of(tree).parts:
        if part[0] in ("get", "put"):
            told.append(((*path, 2), part[2]))
        elif part[0] == "rec":
            told.extend([((*path, 1, at, 0), pair[0]) for at, pair in enumerate(part[1])])
    return told


def properties(tree):
    """Tuples (k, how often it stands) of all properties, rising."""
    found = {}
    for _, k in places_of_properties(tree):
        found[k] = found.get(k, 0) + 1
    return [(k, found[k]) for k in sorted(found)]


def are_unlike_names(thing, many):
    """Whether anything is a list of so many unlike names."""
    if not isinstance(thing, list) or len(thing) != many or not all([is_name(name) for name in thing]):
        return False
    return len(set(thing)) == many


def must_be_property_naming(ks, keep, names):
    """Refuses anything that is no naming of properties by which kept ones stay, and no other one is named so."""
    if not are_unlike_names(names, len(ks)):
        raise NoNaming()
    for place, k in enumerate(ks):
        if names[place] != k and (k in keep or names[place] in keep):
            raise NoNaming(place, names[place])


def props_named(tree, keep, names):
    """The tree with other names for its properties, but for those that are kept."""
    ks = [k for k, _ in properties(tree)]
    must_be_property_naming(ks, keep, names)
    places = {path: names[ks.index(k)] for path, k in places_of_properties(tree)}
    return with_names(tree, (), places)


def props_least(tree, keep, letters):
    """Names for the properties that are shortest in all, those that are kept as they are."""
    rows = properties(tree)
    must_be_letters(letters)
    told = [k for k, _ in rows]
    others = sorted([(-count, place) for place, (k, count) in enumerate(rows) if k not in keep])
    free = [name for name in first_names(letters, len(others) + len(keep)) if name not in keep]
    for (_, place), name in zip(others, free):
        told[place] = name
    return told
