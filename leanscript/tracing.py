"""Traces: a text, the steps that make it short, and whence each word of the short text comes."""

from leanscript.edits import changed, origins_behind
from leanscript.errors import NoCount
from leanscript.goings import bare_changes
from leanscript.naming import named
from leanscript.properties import props_named
from leanscript.reading import read, spots
from leanscript.search import changes_of_step, first_leaner
from leanscript.survey import Survey
from leanscript.words import words
from leanscript.writing import tight_text


class State:
    """A tree, and for the paths of its parts, names and properties the stretches from which they come."""

    def __init__(self, tree, origins):
        self.whole = tree
        self.origins = origins


def state_behind(state, changes):
    """The state behind changes."""
    return State(changed(state.whole, changes), origins_behind(state.whole, changes, state.origins))


def bare_state(state):
    """The state of the bare tree."""
    changes = bare_changes(Survey(state.whole))
    while changes is not None:
        state = state_behind(state, changes)
        changes = bare_changes(Survey(state.whole))
    return state


def innermost(text):
    """For each place of a text the path of the innermost part, name or property there, None where there is none."""
    told = [None for _ in text]
    # What lies in another one is told behind it.
    for path, begin, end in spots(text):
        told[begin:end] = [path for _ in range(begin, end)]
    return told


def map_of(state, size):
    """The map of a state's text to one of a size."""
    text = tight_text(state.whole)
    paths = innermost(text)
    told = []
    for _, word, at in words(text):
        first, last = (0, size) if paths[at] is None else state.origins[paths[at]]
        told.append((at, at + len(word), first, last))
    return told


class Trace:
    """Stands at the tree of a text, and goes on by steps, each of which can be taken back."""

    def __init__(self, text):
        self.size = len(text)
        self.states = [State(read(text), {path: (begin, end) for path, begin, end in spots(text)})]
        self.made = []

    def take_step(self, step, state):
        self.made.append(step)
        self.states.append(state)

    def turn(self, path, word):
        """Makes a turning, or, by the word gone, a going."""
        state = self.states[-1]
        changes = changes_of_step(Survey(state.whole), path, word)
        self.take_step((path, word), state_behind(state, changes))

    def rename(self, naming):
        """Exchanges the names of the bindings."""
        state = self.states[-1]
        tree = named(state.whole, naming)
        self.take_step(("rename", tuple(naming)), State(tree, state.origins))

    def props(self, keep, names):
        """Exchanges the names of the properties."""
        state = self.states[-1]
        tree = props_named(state.whole, keep, names)
        self.take_step(("props", tuple(keep), tuple(names)), State(tree, state.origins))

    def bare(self):
        """Lets all that can go go, as one step."""
        self.take_step(("bare",), bare_state(self.states[-1]))

    def lean(self):
        """Makes steps that make the text shorter, till there is none."""
        found = first_leaner(Survey(self.states[-1].whole))
        while found is not None:
            path, word, changes, _ = found
            self.take_step((path, word), state_behind(self.states[-1], changes))
            found = first_leaner(Survey(self.states[-1].whole))

    def back(self):
        """Takes the last step back."""
        if not self.made:
            raise NoCount("no step to take back")
        self.made.pop()
        self.states.pop()

    def steps(self):
        """The steps made so far."""
        return list(self.made)

    def tree(self):
        return self.states[-1].whole

    def text(self):
        """The shortest text of the tree."""
        return tight_text(self.tree())

    def map(self):
        """The map of the shortest text to the one handed in."""
        return map_of(self.states[-1], self.size)
