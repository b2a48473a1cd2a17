"""All laws, up to a degree, of the functions of a told system."""

from ratesay.closing import MOST_MONOMIALS, closed_list, law_space, series_rows
from ratesay.errors import TooMany
from ratesay.explicits import check_to, check_told, letters_in, names_in
from ratesay.flows import Flow, ModularFlow
from ratesay.forms import is_count
from ratesay.linear import BITS, Echelon, kernel
from ratesay.monomials import count_to, degree_of, is_told_base, monomials_to
from ratesay.primes import Primes
from ratesay.timed import are_own, is_closed_list

MOST_DEGREE = 4
MOST_POWER = 60
FURTHEST = 100


def found_laws(T, d):
    """The pair (base, triple): the base of the laws of degree at most d, and a closed list with it, None for ()."""
    top = count_to(len(T[0]), d)
    if top > MOST_MONOMIALS:
        raise TooMany()
    while True:
        base = tuple(law_space(T, d, top))
        if not base:
            return (base, None)
        flow = Flow(T)
        orders = [k for k in [flow.first_of(p, FURTHEST) for p in base] if k is not None]
        if not orders:
            triple = closed_list(T, base)
            if triple is None:
                raise TooMany()
            return (base, triple)
        top = max(orders)


def laws_to(T, d):
    """The base of the own polynomials of degree at most d whose functions are 0."""
    check_told(T)
    check_to(d, 1, MOST_DEGREE)
    return found_laws(T, d)[0]


def seen_power(T, d, rank):
    """The least power of t up to which the functions have so many independent ones modulo some prime, or None.

    The functions are those of the monomials of degree at most d; what is independent modulo a prime surely is.
    """
    monomials = monomials_to(letters_in(T[0]), d)
    primes = Primes(BITS)
    while True:
        try:
            flow = ModularFlow(T, primes.another())
            echelon = Echelon(flow.p)
            for k in range(MOST_POWER + 1):
                flow.reach(k)
                echelon.take({column: flow.part(monomial, k) for column, monomial in enumerate(monomials)})
                if len(echelon.rows) == rank:
                    return k
            return None
        except TooMany:
            # The prime divides what is divided by; there are others.
            pass


def has_rank(T, d, rank, power):
    """Whether up to a power of t there are at least so many independent functions of monomials of degree at most d."""
    seen = seen_power(T, d, rank)
    if seen is not None and seen <= power:
        return True
    monomials = monomials_to(letters_in(T[0]), d)
    return len(monomials) - len(kernel(series_rows(T, monomials, power), len(monomials))) >= rank


def laws_paper(T, d):
    """A paper that shows the base of the laws of degree at most d."""
    check_told(T)
    check_to(d, 1, MOST_DEGREE)
    base, triple = found_laws(T, d)
    rank = count_to(len(T[0]), d) - len(base)
    power = seen_power(T, d, rank)
    if power is None:
        power = MOST_POWER
        if not has_rank(T, d, rank, power):
            raise TooMany()
    return ("laws", base, triple, power)


def is_base(T, d, value):
    """Whether any value is the told base of a space of own polynomials of degree at most d."""
    if not are_own(names_in(T[0]), value):
        return False
    for p in value:
        if not p or degree_of(p) > d:
            return False
    return is_told_base(value)


def is_laws_paper(T, d, value):
    """Whether any value is a paper that shows the base of the laws of degree at most d."""
    check_told(T)
    check_to(d, 1, MOST_DEGREE)
    if type(value) is not tuple or len(value) != 4 or type(value[0]) is not str or value[0] != "laws":
        return False
    _, base, triple, power = value
    if not is_count(power, 0) or power > MOST_POWER or not is_base(T, d, base):
        return False
    if not base:
        if triple is not None:
            return False
    elif not is_closed_list(T, triple) or [p for p in base if p not in triple[0]]:
        return False
    # There are not more, as the functions of the base are 0.
    return has_rank(T, d, count_to(len(T[0]), d) - len(base), power)
