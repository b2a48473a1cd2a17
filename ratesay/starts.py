"""Starts of cases, and what follows from a system."""

from ratesay.beginning import found_point, rest_in_case, start_at
from ratesay.checks import check_polynomial, check_ranked, check_system
from ratesay.courses import value_of
from ratesay.errors import BadPolynomial, BadStart, TooMany
from ratesay.following import answer_about
from ratesay.forms import is_pair
from ratesay.points import extended_table, start_table
from ratesay.polynomials import UNIT, names_of
from ratesay.rankings import check_names
from ratesay.refusals import is_refusal
from ratesay.simple import case_names, looked_at_case
from ratesay.trees import is_shown


def is_start(case, ranking, value):
    """Whether any value is a start of a case."""
    members, places = looked_at_case(case, ranking)
    return start_table(members, case[1], places, value) is not None


def value_at(case, ranking, start, p):
    """The value of a polynomial at a start, a number of its tower."""
    members, places = looked_at_case(case, ranking)
    table = start_table(members, case[1], places, start)
    if table is None:
        raise BadStart()
    check_polynomial(p)
    for name in names_of(p):
        if name not in places:
            raise BadPolynomial()
    found = extended_table(members, places, start, table, [p])
    return value_of(p, start[0], found)


def start_of(case, ranking, f):
    """The pair (start, inverse) of a start of a simple case at which f is not 0, None if it is 0 at each solution."""
    members, places = looked_at_case(case, ranking)
    check_polynomial(f)
    check_ranked(f, places)
    # At most places f is not 0 unless it is 0 at all, so two are tried before it is reduced.
    for spread in (0, 1):
        found = tried_start(case, members, places, f, spread)
        if found is not None:
            return found
    r = rest_in_case(case, places, f)
    if not r:
        return None
    start, turns = start_at(case, members, places, found_point(case, members, places, r, 0), [f])
    return (start, turns[0])


def tried_start(case, members, places, f, spread):
    """The pair (start, inverse) of f at some point of a simple case, None if f is 0 there."""
    try:
        point = found_point(case, members, places, UNIT, spread)
        start, turns = start_at(case, members, places, point, [f])
    except TooMany:
        return None
    return (start, turns[0])


def asked_places(system, f, ranking):
    """The places of the ranking, when a system, a polynomial and the ranking have been looked at."""
    check_system(system)
    check_polynomial(f)
    return check_names([*case_names(system), *names_of(f)], ranking)


def follows(system, f, ranking):
    """("yes", tree) if f is 0 at each solution of the system, otherwise ("no", paper)."""
    return answer_about(system, f, asked_places(system, f, ranking))


def is_following(system, f, ranking, value):
    """Whether any value is an answer to the question whether f follows from the system."""
    asked_places(system, f, ranking)
    if not is_pair(value):
        return False
    if value[0] == "yes":
        return is_shown(system, f, value[1])
    return value[0] == "no" and is_refusal(system, f, ranking, value[1])
