"""Functions that are polynomials of the time, and what polynomials come to at them."""

from math import lcm

from ratesay.errors import BadPlanted
from ratesay.forms import is_fraction, is_name, is_pair
from ratesay.polynomials import names_of
from ratesay.ratios import ZERO


def is_function(value):
    """Whether any value is a tuple of fractions, the last one not 0."""
    if type(value) is not tuple:
        return False
    for f in value:
        if not is_fraction(f):
            return False
    return not value or value[-1] != ZERO


def is_planted(value):
    """Whether any value is a tuple of pairs (name, coefficients), ascending by names, each once."""
    if type(value) is not tuple:
        return False
    last = None
    for pair in value:
        if not is_pair(pair) or not is_name(pair[0]) or not is_function(pair[1]):
            return False
        if last is not None and not last < pair[0]:
            return False
        last = pair[0]
    return True


def table_of(functions):
    """The dict from names to functions; BadPlanted if they are none."""
    if not is_planted(functions):
        raise BadPlanted()
    return {name: integers_of_time(coefficients) for name, coefficients in functions}


def check_told(polynomials, table):
    """BadPlanted if a name of the polynomials has no function."""
    for p in polynomials:
        for name in names_of(p):
            if name not in table:
                raise BadPlanted()


def integers_of_time(coefficients):
    """The pair (integers, scale) of a function: its coefficients are the integers, divided by the scale."""
    scale = 1
    for f in coefficients:
        scale = lcm(scale, f[1])
    return ([f[0] * (scale // f[1]) for f in coefficients], scale)


def rated(row, k):
    """The integers of the k-th rate of a function with the given integers."""
    found = row
    for _ in range(k):
        found = [n * at for at, n in enumerate(found)][1:]
    return found


def product_of_rows(row, other):
    """The integers of a product."""
    if not row or not other:
        return []
    found = [0 for _ in range(len(row) + len(other) - 1)]
    for i, n in enumerate(row):
        if n:
            for j, m in enumerate(other):
                found[i + j] += n * m
    return found


def is_zero_at(p, table):
    """Whether a polynomial is 0 at functions."""
    terms = []
    scale = 1
    for monomial, f in p:
        row, below = [f[0]], f[1]
        for (name, k), e in monomial:
            integers, part = table[name]
            high = rated(integers, k)
            for _ in range(e):
                row = product_of_rows(row, high)
                below *= part
        terms.append((row, below))
        scale = lcm(scale, below)
    total = {}
    for row, below in terms:
        for at, n in enumerate(row):
            total[at] = total.get(at, 0) + n * (scale // below)
    for n in total.values():
        if n:
            return False
    return True
