"""Least namings, and papers by which a judge sees that none costs less."""

from leanscript.errors import NoNaming, TooMany
from leanscript.floors import FREE, Problem, are_foes, are_friends, fixed_to, is_shut_out, least_costs, mask_of
from leanscript.floors import members, places_in
from leanscript.forms import is_whole
from leanscript.naming import cost
from leanscript.proofs import paper_for
from leanscript.rooms import bindings
from leanscript.supply import must_be_letters

MOST_BINDINGS = 7


class Judge:
    """What a paper is judged by: the problem, what the naming costs, and the floors that are known."""

    def __init__(self, problem, spent):
        self.problem = problem
        self.spent = spent
        self.floors = {}


def problem_of(tree, letters):
    """What is asked for a tree, which must be one, with few bindings, and for letters, which must be such."""
    if len(bindings(tree)) > MOST_BINDINGS:
        raise TooMany("more than seven bindings")
    must_be_letters(letters)
    return Problem(tree, letters)


def all_masks(problem):
    return {mask: True for mask in range(problem.whole + 1)}


def least_of(problem):
    """What a naming costs at least, and one that costs it."""
    masks = all_masks(problem)
    groups = [mask for mask in masks if mask > 0 and are_friends(problem, members(mask))]
    places = places_in(problem, problem.unnamed)
    goal, given = least_costs(problem, places, groups, masks)[problem.whole]
    naming = [None for _ in problem.counts]
    for group, at in given:
        for i in members(group):
            naming[i] = problem.names[at]
    return (goal, naming)


def least_names(tree, letters):
    """The naming of least_naming, without its paper, which can take long."""
    _, naming = least_of(problem_of(tree, letters))
    return naming


def least_naming(tree, letters):
    """A naming that costs least, and a paper that none costs less."""
    problem = problem_of(tree, letters)
    goal, naming = least_of(problem)
    return (naming, paper_for(problem, goal))


def floor_of(judge, lot, state):
    """The floor of a lot with the names fixed in a state."""
    key = tuple([(i, state[i]) for i in lot])
    if key not in judge.floors:
        problem = judge.problem
        best = least_costs(problem, places_in(problem, state), [1 << i for i in lot], all_masks(problem))
        judge.floors[key] = best[mask_of(lot)][0]
    return judge.floors[key]


def are_lots(problem, thing):
    """Whether anything is a list of lists in which each binding stands just once, those of a list all foes."""
    if not isinstance(thing, list) or not all([isinstance(lot, list) for lot in thing]):
        return False
    numbers = [i for lot in thing for i in lot]
    if not all([is_whole(i) for i in numbers]) or sorted(numbers) != list(range(len(problem.counts))):
        return False
    return all([are_foes(problem, lot) for lot in thing])


def is_case_of(judge, paper, state, i, at):
    """Whether anything is what cases must hold where a binding has the name at a place."""
    if is_shut_out(judge.problem, state, i, at):
        return paper is None
    return is_paper(judge, paper, fixed_to(state, i, at))


def are_cases(judge, i, papers, state):
    """Whether anything is a binding that isn't fixed, with what must be told of each name that it may need."""
    if not is_whole(i) or not 0 <= i < len(state) or state[i] != FREE:
        return False
    if not isinstance(papers, list) or len(papers) != judge.problem.needs[i]:
        return False
    return all([is_case_of(judge, paper, state, i, at) for at, paper in enumerate(papers)])


def is_paper(judge, thing, state):
    """Whether anything is a paper that with the names fixed in a state none costs less."""
    if not isinstance(thing, tuple) or len(thing) == 0:
        return False
    if thing[0] == "lots" and len(thing) == 2:
        if not are_lots(judge.problem, thing[1]):
            return False
        return sum([floor_of(judge, lot, state) for lot in thing[1]]) >= judge.spent
    if thing[0] == "cases" and len(thing) == 3:
        return are_cases(judge, thing[1], thing[2], state)
    return False


def naming_judged(tree, letters, naming, paper):
    """Whether anything is a naming, and anything else a paper that none costs less."""
    problem = problem_of(tree, letters)
    try:
        spent = cost(tree, naming)
    except NoNaming:
        return False
    return is_paper(Judge(problem, spent), paper, problem.unnamed)
