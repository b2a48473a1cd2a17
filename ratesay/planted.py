"""Functions that are polynomials of the time, and what polynomials come to at them."""

from math import lcm

from ratesay.errors import BadPlanted
from ratesay.forms import is_fraction, is_name, is_pair
from ratesay.polynomials import names_of
from ratesay.ratios import ZERO, integer_power, reduced


def is_function(value):
    """Whether any value is a tuple of fractions, the last one not 0."""
    if type(value) is not tuple:
        return False
    for f in value:
        if not is_fraction(f):
            return False
    return not value or value[-1] != ZERO


def is_planted(value):
    """Whether any value is a tuple of pairs (name, coefficients), ascending by names, each once."""
    if type(value) is not tuple:
        return False
    last = None
    for pair in value:
        if not is_pair(pair) or not is_name(pair[0]) or not is_function(pair[1]):
            return False
        if last is not None and not last < pair[0]:
            return False
        last = pair[0]
    return True


def table_of(functions):
    """The dict from names to functions; BadPlanted if they are none."""
    if not is_planted(functions):
        raise BadPlanted()
    return {name: integers_of_time(coefficients) for name, coefficients in functions}


def check_told(polynomials, table):
    """BadPlanted if a name of the polynomials has no function."""
    for p in polynomials:
        for name in names_of(p):
            if name not in table:
                raise BadPlanted()


def integers_of_time(coefficients):
    """The pair (integers, scale) of a function: its coefficients are the integers, divided by the scale."""
    scale = 1
    for f in coefficients:
        scale = lcm(scale, f[1])
    return ([f[0] * (scale // f[1]) for f in coefficients], scale)


def rated(row, k):
    """The integers of the k-th rate of a function with the given integers."""
    found = row
    for _ in range(k):
        found = [n * at for at, n in enumerate(found)][1:]
    return found


def worth_of(row, shift):
    """The integer that a function with integers as coefficients comes to at the time 2 to the power shift."""
    found = 0
    for n in reversed(row):
        found = (found << shift) + n
    return found


def terms_of(p, table):
    """The pair (list, scale): the list has the (integer, rows) of p times scale, the functions with their exponents."""
    terms = []
    scale = 1
    for monomial, f in p:
        below = f[1]
        rows = []
        for (name, k), e in monomial:
            integers, part = table[name]
            rows.append((rated(integers, k), e))
            below *= integer_power(part, e)
        terms.append((f[0], below, rows))
        scale = lcm(scale, below)
    return ([(n * (scale // below), rows) for n, below, rows in terms], scale)


def packed_worth(terms):
    """The pair (integer, shift): what terms come to at the time 2 to the power shift, great enough to tell them."""
    bound = 0
    for n, rows in terms:
        most = abs(n)
        for row, e in rows:
            most *= integer_power(sum([abs(c) for c in row]), e)
        bound += most
    # At a time above twice all coefficients of what p comes to, that is 0 only if it is 0 at all times.
    shift = bound.bit_length() + 1
    total = 0
    for n, rows in terms:
        for row, e in rows:
            n *= integer_power(worth_of(row, shift), e)
        total += n
    return (total, shift)


def is_zero_at(p, table):
    """Whether a polynomial is 0 at functions."""
    return packed_worth(terms_of(p, table)[0])[0] == 0


def function_at(p, table):
    """The coefficients of the function that a polynomial comes to at functions."""
    terms, scale = terms_of(p, table)
    total, shift = packed_worth(terms)
    found = []
    while total:
        n = total & ((1 << shift) - 1)
        if n >> (shift - 1):
            n -= 1 << shift
        found.append(reduced(n, scale))
        total = (total - n) >> shift
    return tuple(found)
