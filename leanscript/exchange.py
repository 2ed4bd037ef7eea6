"""Names in a tree exchanged for others."""


def with_names(thing, path, names):
    """What stands at a path, with new names: a dict by the paths at which a name or the expression of one stands."""
    if path in names:
        return names[path] if isinstance(thing, str) else ("name", names[path])
    if isinstance(thing, tuple):
        return tuple([with_names(inner, (*path, at), names) for at, inner in enumerate(thing)])
    return thing
