"""Papers that no naming of a tree costs less than the least one."""

from leanscript.floors import FREE, are_foes, fixed_to, is_shut_out, least_costs, mask_of, members, places_in


class Proof:
    """What is known while a paper is made that no naming costs less than a goal: the masks that may be lots, the
    kinds of names, and by keys of states what lots alone tell, and by which binding they fall into cases."""

    def __init__(self, problem, goal):
        self.problem = problem
        self.goal = goal
        self.lots = {mask: True for mask in range(1, problem.whole + 1) if are_foes(problem, members(mask))}
        self.kinds = kinds_of_names(problem)
        self.bounds = {}
        self.chosen = {}


def kinds_of_names(problem):
    """For each place the number of its name's kind: those of one kind are as long, and barred for the same ones."""
    known = {}
    told = []
    for name in problem.names:
        kind = (len(name), mask_of([i for i, names in enumerate(problem.bars) if name in names]))
        told.append(known.setdefault(kind, len(known)))
    return told


def key_of(proof, state):
    """What lots of a state hang on: those of one lot have unlike names, so the kinds of these tell all."""
    return tuple([FREE if at == FREE else proof.kinds[at] for at in state])


def best_lots(proof, floors):
    """The greatest sum of floors of lots that have each binding once: (sum, masks of the lots)."""
    cover = {0: (0, ())}
    for mask in range(1, proof.problem.whole + 1):
        lowest = mask & -mask
        for lot in proof.lots:
            if lot & lowest != 0 and lot & mask == lot:
                total, lots = cover[mask ^ lot]
                if mask not in cover or total + floors[lot] > cover[mask][0]:
                    cover[mask] = (total + floors[lot], (*lots, lot))
    return cover[proof.problem.whole]


def bound_of(proof, state):
    """What lots alone tell of a state: (sum of their floors, masks of the lots)."""
    key = key_of(proof, state)
    if key not in proof.bounds:
        singles = [1 << i for i in range(len(state))]
        best = least_costs(proof.problem, places_in(proof.problem, state), singles, proof.lots)
        proof.bounds[key] = best_lots(proof, {mask: told[0] for mask, told in best.items()})
    return proof.bounds[key]


def open_cases(proof, state, i):
    """How many of the names that a binding may need lots alone don't settle."""
    told = 0
    for at in range(proof.problem.needs[i]):
        shut_out = is_shut_out(proof.problem, state, i, at)
        if not shut_out and bound_of(proof, fixed_to(state, i, at))[0] < proof.goal:
            told += 1
    return told


def chosen_binding(proof, state):
    """The binding by whose names a state falls into cases: one that leaves the fewest open."""
    key = key_of(proof, state)
    if key not in proof.chosen:
        free = [i for i, at in enumerate(state) if at == FREE]
        proof.chosen[key] = min([(open_cases(proof, state, i), proof.problem.needs[i], i) for i in free])[2]
    return proof.chosen[key]


def paper_of(proof, state):
    """A paper that with the names fixed in a state none costs less than the goal."""
    bound, lots = bound_of(proof, state)
    if bound >= proof.goal:
        return ("lots", [members(lot) for lot in lots])
    i = chosen_binding(proof, state)
    papers = []
    for at in range(proof.problem.needs[i]):
        shut_out = is_shut_out(proof.problem, state, i, at)
        papers.append(None if shut_out else paper_of(proof, fixed_to(state, i, at)))
    return ("cases", i, papers)


def paper_for(problem, goal):
    """A paper that no naming costs less than a goal, which the least ones cost."""
    return paper_of(Proof(problem, goal), problem.unnamed)
