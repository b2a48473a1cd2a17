"""Finding the cases of a system, with the papers that show them."""

from ratesay.branches import Scope
from ratesay.checks import check_system, checked_system
from ratesay.errors import BadPlanted, NotOne, TooMany
from ratesay.planted import is_zero_at, table_of
from ratesay.rankings import places_of
from ratesay.searching import MOST_SPENT, backing_of, case_of, first_leaf, grown, home_of, leaf_along, tree_of
from ratesay.simple import case_names


def leaves_of(branches):
    """The open leaves among nodes, in their order."""
    return [branch for branch in branches if branch.end[0] == "case"]


def plain_parts(system, ranking):
    """The pair (TREE, LEAVES): a plain tree of the system, and the tuple of the (A, M) of its open leaves."""
    places = checked_system(system, ranking)
    branches = grown(Scope(places, False, MOST_SPENT), system)
    return (tree_of(branches), tuple([case_of(branch) for branch in leaves_of(branches)]))


def cases_of(system, ranking):
    """The pair (CASES, PAPER): simple cases of the system, and a paper of them."""
    places = checked_system(system, ranking)
    branches = grown(Scope(places, True, MOST_SPENT), system)
    cases = []
    papers = []
    for branch in leaves_of(branches):
        case = case_of(branch)
        cases.append(case)
        papers.append((shown_backing(case, ranking), home_of(case, ranking, branch.givens)))
    return (tuple(cases), (tree_of(branches), tuple(papers)))


def shown_backing(case, ranking):
    """A backing of what should be a simple case."""
    backing = backing_of(case, ranking)
    if backing is None:
        raise TooMany()
    return backing


def has_solutions(system):
    """Whether a system has a solution."""
    check_system(system)
    names = case_names(system)
    ranking = (tuple(names),) if names else ()
    return first_leaf(Scope(places_of(ranking), True, MOST_SPENT), system) is not None


def simple_backing(case, ranking):
    """A backing of a case, or None if it is not simple."""
    return backing_of(case, ranking)


def one_case(system, ranking, is_zero):
    """The triple (CASE, BACKING, HOME) of the case of a solution at which is_zero tells what is 0."""
    places = checked_system(system, ranking)
    branch = leaf_along(Scope(places, True, MOST_SPENT), system, is_zero)
    if branch.end[0] != "case":
        raise TooMany()
    case = case_of(branch)
    return (case, shown_backing(case, ranking), home_of(case, ranking, system))


def planted_case(system, ranking, planted):
    """The triple (CASE, BACKING, HOME) of the case that has a solution of functions of the time."""
    places = checked_system(system, ranking)
    table = table_of(planted)
    if sorted(table) != sorted(places):
        raise BadPlanted()
    for k, p in enumerate(system[0]):
        if not is_zero_at(p, table):
            raise NotOne("equation", k)
    for k, q in enumerate(system[1]):
        if is_zero_at(q, table):
            raise NotOne("inequation", k)
    return one_case(system, ranking, lambda p: is_zero_at(p, table))
