"""What remains of a system for some of its functions."""

from ratesay.checks import check_system, is_system
from ratesay.errors import BadRanking
from ratesay.finding import cases_of
from ratesay.forms import is_pair
from ratesay.homes import is_cases
from ratesay.rankings import is_ranking
from ratesay.simple import case_names
from ratesay.trees import leaf_cases


def two_blocks(upper, names):
    """The ranking of a tuple of upper names and, below them, the others of some names, ascending."""
    lower = tuple([name for name in names if name not in upper])
    return (upper, lower) if lower else (upper,)


def checked_blocks(system, upper):
    """The ranking of upper names of a system, when both have been looked at."""
    check_system(system)
    names = case_names(system)
    if type(upper) is not tuple or not is_ranking((upper,)):
        raise BadRanking()
    for name in upper:
        if name not in names:
            raise BadRanking()
    return two_blocks(upper, names)


def has_name(p, names):
    """Whether one of some names stands in a polynomial."""
    for monomial, _ in p:
        for v, _ in monomial:
            if v[0] in names:
                return True
    return False


def lower_part(case, upper):
    """The pair of the members of a case that have no upper names."""
    equations, inequations = case
    first = tuple([p for p in equations if not has_name(p, upper)])
    return (first, tuple([p for p in inequations if not has_name(p, upper)]))


def told_cases(system, ranking, paper):
    """The cases of which any value is a paper, or None if it is none."""
    if not is_pair(paper):
        return None
    cases = leaf_cases(system, paper[0])
    if cases is None or not is_cases(system, ranking, cases, paper):
        return None
    return cases


def are_systems(value):
    """Whether any value is a tuple of systems."""
    if type(value) is not tuple:
        return False
    for part in value:
        if not is_system(part):
            return False
    return True


def remain(system, upper):
    """The pair (parts, paper): the lower parts of cases of the system, and a paper of these cases."""
    ranking = checked_blocks(system, upper)
    cases, paper = cases_of(system, ranking)
    return (tuple([lower_part(case, upper) for case in cases]), paper)


def is_remain(system, upper, value):
    """Whether any value is a pair of the lower parts of cases of the system, and a paper of these cases."""
    ranking = checked_blocks(system, upper)
    if not is_pair(value) or not are_systems(value[0]):
        return False
    cases = told_cases(system, ranking, value[1])
    if cases is None:
        return False
    return value[0] == tuple([lower_part(case, upper) for case in cases])
