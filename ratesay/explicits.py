"""Explicit systems and told systems: their forms, values at starts, and rates along them."""

from ratesay.errors import BadExplicit, BadNumber, BadPolynomial, BadStart
from ratesay.forms import is_count, is_fraction, is_name, is_pair
from ratesay.packing import sum_of_products
from ratesay.polynomials import is_polynomial, letters_of, partial
from ratesay.ratios import ZERO, integer_power, reduced, summed


def is_own(names, p):
    """Whether any value is a polynomial that has no letters but some names, of the order 0."""
    if not is_polynomial(p):
        return False
    for name, k in letters_of(p):
        if k or name not in names:
            return False
    return True


def is_explicit_system(value):
    """Whether any value is an explicit system, of any number of names."""
    if type(value) is not tuple or not value:
        return False
    last = None
    for pair in value:
        if not is_pair(pair) or not is_name(pair[0]):
            return False
        if last is not None and not last < pair[0]:
            return False
        last = pair[0]
    names = [name for name, _ in value]
    for _, p in value:
        if not is_own(names, p):
            return False
    return True


def is_start_for(g, value):
    """Whether any value is a start for an explicit system."""
    if type(value) is not tuple or len(value) != len(g):
        return False
    for f in value:
        if not is_fraction(f):
            return False
    return True


def check_explicit(g):
    """BadExplicit if a value is no explicit system."""
    if not is_explicit_system(g):
        raise BadExplicit()


def check_told(T):
    """BadExplicit or BadStart if a value is no told system."""
    if not is_pair(T) or not is_explicit_system(T[0]):
        raise BadExplicit()
    if not is_start_for(T[0], T[1]):
        raise BadStart()


def check_own(g, p):
    """BadPolynomial if a value is no own polynomial of an explicit system."""
    if not is_own(names_in(g), p):
        raise BadPolynomial()


def check_to(n, least, most):
    """BadNumber if a value is no integer from least to most."""
    if not is_count(n, least) or n > most:
        raise BadNumber(n)


def names_in(g):
    """The list of the names of an explicit system."""
    return [name for name, _ in g]


def letters_in(g):
    """The list of the letters of an explicit system."""
    return [(name, 0) for name, _ in g]


def along(g, f):
    """The rate of an own polynomial along an explicit system."""
    table = {name: p for name, p in g}
    return sum_of_products([(partial(f, v), table[v[0]]) for v in letters_of(f)])


def start_table(T):
    """The dict from the letters of a told system to their values at the start."""
    g, c = T
    return {(name, 0): f for (name, _), f in zip(g, c)}


def value_at(p, table):
    """The fraction that p comes to, a dict telling the fractions of its letters."""
    parts = []
    for monomial, (n, d) in p:
        for v, e in monomial:
            high, low = table[v]
            n *= integer_power(high, e)
            d *= integer_power(low, e)
        if n:
            parts.append(reduced(n, d))
    return summed(parts) if parts else ZERO
