"""Points with fractions as values: which pairs of tuples of polynomials they solve, and what point 20 asks there."""

from fractions import Fraction

from ratesay.polynomials import coefficients, letters_of, number, plus
from ratesay.rankings import leader
from tests.helpers import value


def solves(pair, point):
    """Whether a point solves a pair (P, Q)."""
    return all(value(p, point) == 0 for p in pair[0]) and all(value(q, point) != 0 for q in pair[1])


def through(p, point):
    """p plus a number, so that it is 0 at the point."""
    worth = -value(p, point)
    return plus(p, number((worth.numerator, worth.denominator)))


def trimmed(row):
    """The list without zeros at its end."""
    while row and row[-1] == 0:
        row = row[:-1]
    return row


def rest(a, b):
    """The remainder of lists of Fractions."""
    a = trimmed(a)
    while len(a) >= len(b):
        factor = a[-1] / b[-1]
        start = len(a) - len(b)
        a = trimmed([x - factor * b[k - start] if k >= start else x for k, x in enumerate(a)][:-1])
    return a


def has_double_root(row):
    """Whether a polynomial of one letter, a list of Fractions, has a root more than once."""
    a, b = trimmed(row), trimmed([k * c for k, c in enumerate(row)][1:])
    while b:
        a, b = b, rest(a, b)
    return len(a) > 1


def values_by(p, w, point):
    """The list of the values of the coefficients of p by w."""
    return [value(c, point) for c in coefficients(p, w)]


def is_simple_at(pair, ranking, point):
    """Whether the conditions of point 20 hold at a point of the pair."""
    for p in pair[0]:
        row = values_by(p, leader(p, ranking), point)
        if row[-1] == 0 or has_double_root(row):
            return False
    return all(values_by(m, leader(m, ranking), point)[-1] != 0 for m in pair[1])


def all_letters(pair):
    """The letters of a pair."""
    return sorted({v for p in [*pair[0], *pair[1]] for v in letters_of(p)})


def small_point(rng, letters):
    """Small values of letters."""
    return {v: Fraction(rng.randint(-3, 3), rng.choice([1, 1, 2])) for v in letters}
