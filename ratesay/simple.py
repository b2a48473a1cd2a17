"""Cases, their obligations, and what follows in a simple one."""

from ratesay.errors import BadCase, BadLetter, BadPolynomial, BadRanking
from ratesay.forms import is_pair
from ratesay.members import members_of, orders_of, proper_rates
from ratesay.polynomials import (
    as_number,
    coefficients,
    is_letter,
    is_polynomial,
    names_of,
)
from ratesay.rankings import check_names, highest, is_ranking, key_of, places_of
from ratesay.remainders import is_polynomials, whole_steps
from ratesay.trees import is_plain, is_refuted


def has_case_form(value):
    """Whether any value is a pair of tuples of polynomials with letters."""
    if not is_pair(value) or not is_polynomials(value[0]) or not is_polynomials(value[1]):
        return False
    for p in [*value[0], *value[1]]:
        if as_number(p) is not None:
            return False
    return True


def case_names(pair):
    """The names of a pair of tuples of polynomials, ascending."""
    seen = {}
    for p in [*pair[0], *pair[1]]:
        for name in names_of(p):
            seen[name] = True
    return sorted(seen)


def case_members(pair, places):
    """The members of a pair that has the form of a case; None if it is no case."""
    equations, inequations = pair
    members = members_of(equations, places)
    if members is None:
        return None
    leaders = [member.leader for member in members]
    orders = orders_of(members)
    for m in inequations:
        if proper_rates(m, orders) or highest(m, places) in leaders:
            return None
    return members


def is_case(value, ranking):
    """Whether any value is a case for the ranking."""
    if not is_ranking(ranking):
        raise BadRanking()
    if not has_case_form(value):
        return False
    places = places_of(ranking)
    for name in case_names(value):
        if name not in places:
            return False
    return case_members(value, places) is not None


def looked_at_case(pair, ranking):
    """The pair (members, places) of a case, when it and the ranking have been looked at."""
    if not has_case_form(pair):
        raise BadCase()
    places = check_names(case_names(pair), ranking)
    members = case_members(pair, places)
    if members is None:
        raise BadCase()
    return (members, places)


def part_of(pair, places, letter):
    """The part of a case below a letter."""
    bound = key_of(places, letter)
    equations = [p for p in pair[0] if key_of(places, highest(p, places)) < bound]
    inequations = [p for p in pair[1] if key_of(places, highest(p, places)) < bound]
    return (tuple(equations), tuple(inequations))


def part_below(case, ranking, letter):
    """The pair of those equations and inequations of a case whose leaders are below a letter."""
    _, places = looked_at_case(case, ranking)
    if not is_letter(letter) or letter[0] not in places:
        raise BadLetter(letter)
    return part_of(case, places, letter)


def free_names(case, ranking):
    """The names of the ranking that lead nothing in the equations of a case, ascending."""
    members, places = looked_at_case(case, ranking)
    orders = orders_of(members)
    return tuple([name for name in sorted(places) if name not in orders])


def obligations(case, ranking):
    """The tuple of (WORD, place, (P, Q)): what a backing refutes."""
    members, places = looked_at_case(case, ranking)
    found = []
    for k, member in enumerate(members):
        equations, inequations = part_of(case, places, member.leader)
        found.append(("initial", k, ((*equations, member.initial), inequations)))
        found.append(("separant", k, ((*equations, member.p, member.separant), inequations)))
    for k, m in enumerate(case[1]):
        v = highest(m, places)
        equations, inequations = part_of(case, places, v)
        found.append(("inequation", k, ((*equations, coefficients(m, v)[-1]), inequations)))
    return tuple(found)


def is_shown_simple(case, ranking, backing):
    """Whether any value is a backing of the case."""
    asked = obligations(case, ranking)
    if type(backing) is not tuple or len(backing) != len(asked):
        return False
    for (_, _, system), tree in zip(asked, backing):
        if not is_refuted(system, tree) or not is_plain(tree):
            return False
    return True


def holds_in(case, ranking, f):
    """Whether f is 0 at each solution of a simple case."""
    members, places = looked_at_case(case, ranking)
    if not is_polynomial(f):
        raise BadPolynomial()
    for name in names_of(f):
        if name not in places:
            raise BadRanking()
    _, rest = whole_steps(f, members, places)
    return rest == ()
