"""Looking at arguments that several modules take."""

from ratesay.errors import BadPolynomial, BadRanking, BadSystem
from ratesay.forms import is_pair
from ratesay.polynomials import is_polynomial, names_of
from ratesay.rankings import check_names
from ratesay.remainders import is_polynomials
from ratesay.simple import case_names


def is_system(value):
    """Whether any value is a pair of tuples of polynomials."""
    return is_pair(value) and is_polynomials(value[0]) and is_polynomials(value[1])


def check_system(value):
    """BadSystem if a value is no system."""
    if not is_system(value):
        raise BadSystem()


def check_polynomial(value):
    """BadPolynomial if a value is no polynomial."""
    if not is_polynomial(value):
        raise BadPolynomial()


def check_ranked(p, places):
    """BadRanking if a name of p has no place."""
    for name in names_of(p):
        if name not in places:
            raise BadRanking()


def checked_system(system, ranking):
    """The places of the ranking, when the system and the ranking have been looked at."""
    check_system(system)
    return check_names(case_names(system), ranking)
