"""What the names of some bindings cost at least. Sets of bindings are told as masks: bit i stands for binding i.
A state is a tuple: for each binding the place in the supply of its fixed name, FREE where it isn't fixed."""

from leanscript.naming import barred, counts, hindering
from leanscript.supply import first_names

FREE = -1


class Problem:
    """By numbers of bindings: counts, foes (those that hinder it), bars (names barred for it), needs (how many names
    of the supply it may need at most); names: so many of the supply as any needs; whole: the mask of all bindings;
    unnamed: the state in which none is fixed."""

    def __init__(self, tree, letters):
        self.counts = counts(tree)
        self.foes = hindering(tree)
        self.bars = barred(tree)
        self.needs = [1 + len(foes) + len(bars) for foes, bars in zip(self.foes, self.bars)]
        self.names = first_names(letters, max([0, *self.needs]))
        self.whole = (1 << len(self.counts)) - 1
        self.unnamed = (FREE,) * len(self.counts)


def members(mask):
    """The numbers of the bindings of a mask, rising."""
    return [i for i in range(mask.bit_length()) if mask >> i & 1 == 1]


def mask_of(numbers):
    return sum([1 << i for i in numbers])


def are_foes(problem, numbers):
    """Whether all of some bindings hinder one another."""
    return all([i == j or i in problem.foes[j] for i in numbers for j in numbers])


def are_friends(problem, numbers):
    """Whether none of some bindings hinders another one."""
    return not any([i in problem.foes[j] for i in numbers for j in numbers])


def is_shut_out(problem, state, i, at):
    """Whether a binding can't have the name at a place: it is barred, or a fixed one that hinders it has it."""
    if problem.names[at] in problem.bars[i]:
        return True
    return any([state[foe] == at for foe in problem.foes[i]])


def fixed_to(state, i, at):
    """The state with a binding fixed to the name at a place."""
    return (*state[:i], at, *state[i + 1:])


def free_places(problem, i):
    """The places of the first names that aren't barred for a binding: one more than those that hinder it can have."""
    told = [at for at, name in enumerate(problem.names) if name not in problem.bars[i]]
    return told[:1 + len(problem.foes[i])]


def places_in(problem, state):
    """For each binding the places of the names that it may have in a state, whatever the others have."""
    return [free_places(problem, i) if at == FREE else [at] for i, at in enumerate(state)]


def least_costs(problem, places, groups, wanted):
    """For those masks of a dict that groups make up, each of them with one name of its own: (the least cost, tuples
    (group, place of its name)). Places tells, for each binding, the places of the names that it may have."""
    best = {0: (0, ())}
    for here in sorted(set([at for row in places for at in row])):
        fit = [group for group in groups if all([here in places[i] for i in members(group)])]
        size = len(problem.names[here])
        weights = [(group, size * sum([problem.counts[i] for i in members(group)])) for group in fit]
        for mask, (spent, given) in list(best.items()):
            for group, weight in weights:
                more = mask | group
                if mask & group == 0 and more in wanted and (more not in best or spent + weight < best[more][0]):
                    best[more] = (spent + weight, (*given, (group, here)))
    return best
