"""Fractions that are kept along explicit equations: determinants of rates, found and judged."""

from math import gcd

from ratesay.errors import TooMany
from ratesay.explicits import along, is_own, is_start_for, letters_in, names_in
from ratesay.flows import Flow, ModularFlow
from ratesay.linear import BITS, Echelon, integer_row, kernel
from ratesay.minors import minors_of
from ratesay.monomials import combination, monomials_to
from ratesay.packing import sum_of_products
from ratesay.polynomials import UNIT, alike, as_number, common_divisor, quotient, scaled, times
from ratesay.primes import Primes, divides_none, great_primes
from ratesay.ratios import ONE
from ratesay.samples import fixed_value

# Points of so many little integers are tried ahead of others.
LITTLE = 40
FURTHER = 4
GREATEST = 1000
MOST_PAIRS = 6000
MOST_PRODUCTS = 60000000
MOST_COMMON = 60000


def is_kept_quotient(g, p, q):
    """Whether p / q is kept along g."""
    return times(along(g, p), q) == times(p, along(g, q))


def kept_base(g, slope, n):
    """The told base of the own polynomials of degree at most n whose rate is slope times them."""
    monomials = monomials_to(letters_in(g), n)
    table = {}
    for column, monomial in enumerate(monomials):
        v = ((monomial, ONE),)
        for other, f in sum_of_products([(along(g, v), UNIT), (scaled(slope, (-1, 1)), v)]):
            table.setdefault(other, {})[column] = f
    vectors = kernel([integer_row(row) for row in table.values()], len(monomials))
    return tuple([combination(monomials, vector) for vector in vectors])


def little_points(count):
    """Points of integers: little ones first, then others."""
    found = []
    for k in range(LITTLE):
        found.append([(k * (at + 1) + k // 3 * at + at * at) % 11 for at in range(count)])
    for seed in range(FURTHER):
        found.append([fixed_value(seed, at, 0, great_primes(BITS)[0]) % GREATEST for at in range(count)])
    return found


def columns_at(g, monomials, point, p):
    """The rows, modulo a prime, of the first coefficients of the functions of monomials that begin at a point."""
    many = len(monomials)
    flow = ModularFlow((g, tuple([(n, 1) for n in point])), p)
    flow.reach(many)
    return [{column: flow.part(monomial, k) for column, monomial in enumerate(monomials)} for k in range(many)]


def is_independent_at(g, monomials, point, p):
    """Whether the determinant of the monomials is seen not to be 0 at a point of integers, modulo a prime."""
    echelon = Echelon(p)
    for row in columns_at(g, monomials, point, p):
        echelon.take(row)
    return len(echelon.rows) == len(monomials)


def prime_for(g):
    """A prime that divides no integer in an explicit system."""
    primes = Primes(BITS)
    numbers = [n for _, q in g for _, f in q for n in f]
    while True:
        p = primes.another()
        if divides_none(p, numbers):
            return p


def fraction_paper(g, n):
    """A paper whether there is a kept fraction of degree at most n that is no number."""
    monomials = monomials_to(letters_in(g), n)
    p = prime_for(g)
    for point in little_points(len(g)):
        if is_independent_at(g, monomials, point, p):
            return ("none", tuple([(c, 1) for c in point]))
    for q in kept_base(g, (), n):
        if as_number(q) is None:
            return ("some", q, UNIT)
    return determinant_paper(g, monomials, p)


def determinant_paper(g, monomials, prime):
    """The paper of a kept fraction made of determinants, where that of all monomials is 0 at all points seen."""
    point = little_points(len(g))[-1]
    count = 2
    while count < len(monomials) and is_independent_at(g, monomials[:count], point, prime):
        count += 1
    rows = [[((monomial, ONE),) for monomial in monomials[:count]]]
    for _ in range(count - 2):
        rows.append([along(g, p) for p in rows[-1]])
    minors = minors_of(rows, count, MOST_PAIRS, MOST_PRODUCTS)
    below = minors[count - 1]
    found = [(len(p), k) for k, p in enumerate(minors[:-1]) if p and below and not alike(p, below)]
    for _, k in sorted(found):
        p, q = without_common(minors[k], below)
        if is_kept_quotient(g, p, q):
            return ("some", p, q)
    raise TooMany()


def without_common(p, q):
    """p and q without their greatest common divisor, if that is easily found."""
    if len(p) * len(q) > MOST_COMMON:
        return (p, q)
    try:
        common = common_divisor(p, q)
    except TooMany:
        return (p, q)
    p, q = quotient(p, common), quotient(q, common)
    scale = gcd_of(q)
    return (scaled(p, scale), scaled(q, scale))


def gcd_of(q):
    """A fraction that takes a common divisor out of the numerators of q."""
    common = 0
    for _, f in q:
        common = gcd(common, f[0])
    return (1, common) if q[-1][1][0] > 0 else (-1, common)


def is_none_paper(g, n, point):
    """Whether any value is a point at which the determinant of the monomials of degree at most n is not 0."""
    if not is_start_for(g, point):
        return False
    monomials = monomials_to(letters_in(g), n)
    flow = Flow((g, point))
    flow.reach(len(monomials))
    rows = []
    for k in range(len(monomials)):
        rows.append(integer_row({column: flow.part(monomial, k) for column, monomial in enumerate(monomials)}))
    return not kernel(rows, len(monomials))


def is_some_paper(g, p, q):
    """Whether any values are a kept fraction that is no number."""
    names = names_in(g)
    if not is_own(names, p) or not is_own(names, q) or not p or not q or alike(p, q):
        return False
    return is_kept_quotient(g, p, q)
