"""Bounds of polynomials at the general run of a model that are not worked out: of degrees and integers.

A size is a triple (tops, norm, scale): tops is a dict from letters to bounds of the degrees, with a bound of the whole
degree under the key WHOLE; scale times the polynomial has integers as coefficients, norm is a bound of the sum of
their amounts. The size of 0 is None.
"""

from math import lcm

from ratesay.generalruns import Run
from ratesay.ratios import integer_power

WHOLE = ()
# The values of letters with at most so many pairs are worked out.
MOST_PAIRS = 300
MOST_RATES = 60


def size_of(p):
    """The size of a polynomial."""
    if not p:
        return None
    scale = 1
    for _, f in p:
        scale = lcm(scale, f[1])
    tops = {WHOLE: 0}
    norm = 0
    for monomial, (n, d) in p:
        norm += abs(n) * (scale // d)
        whole = 0
        for v, e in monomial:
            whole += e
            tops[v] = max(e, tops.get(v, 0))
        tops[WHOLE] = max(whole, tops[WHOLE])
    return (tops, norm, scale)


def one_size():
    """The size of 1."""
    return ({WHOLE: 0}, 1, 1)


def letter_size(v):
    """The size of a letter."""
    return ({WHOLE: 1, v: 1}, 1, 1)


def product_of(a, b):
    """The size of a product."""
    if a is None or b is None:
        return None
    tops = {v: e for v, e in a[0].items()}
    for v, e in b[0].items():
        tops[v] = tops.get(v, 0) + e
    return (tops, a[1] * b[1], a[2] * b[2])


def power_of(a, e):
    """The size of a power."""
    if e == 0:
        return one_size()
    if a is None:
        return None
    return ({v: e * n for v, n in a[0].items()}, integer_power(a[1], e), integer_power(a[2], e))


def multiple_of(a, n):
    """The size of an integer, other than 0, times a polynomial."""
    return None if a is None else (a[0], abs(n) * a[1], a[2])


def sum_of(a, b):
    """The size of a sum or a difference."""
    if a is None or b is None:
        return a if b is None else b
    tops = {v: e for v, e in a[0].items()}
    for v, e in b[0].items():
        tops[v] = max(e, tops.get(v, 0))
    scale = lcm(a[2], b[2])
    return (tops, a[1] * (scale // a[2]) + b[1] * (scale // b[2]), scale)


def partial_of(a, v):
    """The size of a partial derivative."""
    e = a[0].get(v, 0)
    if e == 0:
        return None
    tops = {w: n for w, n in a[0].items()}
    tops[v] = e - 1
    tops[WHOLE] -= 1
    return (tops, a[1] * e, a[2])


class Sizes:
    """Sizes of the n of the values n / d of letters, d a product of the denominators of a model to some powers."""

    def __init__(self, model):
        self.run = Run(model)
        self.bottoms = [size_of(d) for d in self.run.bottoms]
        self.slopes = {x: (size_of(n), powers) for x, (n, powers) in self.run.slopes.items()}
        self.known = {}

    def bottom(self, powers):
        """The size of the product of the denominators to some powers."""
        found = one_size()
        for size, e in zip(self.bottoms, powers):
            found = product_of(found, power_of(size, e))
        return found

    def letter_value(self, v):
        """The pair (size of n, powers) of a letter's value."""
        name, k = v
        if name in self.run.inputs:
            return (letter_size(v), self.run.none)
        row = self.known.setdefault(name, [])
        while len(row) <= k:
            row.append(self.next_value(name, row))
        return row[k]

    def next_value(self, name, row):
        """The pair for the next letter of a name that is no input, those of the letters before it being told."""
        if name in self.run.parameters and row:
            return (None, self.run.none)
        if self.are_short(name, len(row)):
            n, powers = self.run.letter_value((name, len(row)))
            return (size_of(n), powers)
        return self.rate(row[-1])

    def are_short(self, name, count):
        """Whether the values of a name's first letters have not too many pairs to work out the next one."""
        if count > MOST_RATES:
            return False
        for k in range(count):
            if len(self.run.letter_value((name, k))[0]) > MOST_PAIRS:
                return False
        return True

    def rate(self, value):
        """The rate of a value."""
        n, powers = value
        if n is None:
            return (None, self.run.none)
        ones = tuple([1 if e else 0 for e in powers])
        found = product_of(self.scaled_rate(n), self.bottom(ones))
        for k, e in enumerate(powers):
            if e:
                others = tuple([one if j != k else 0 for j, one in enumerate(ones)])
                drop = product_of(product_of(n, self.scaled_rate(self.bottoms[k])), self.bottom(others))
                found = sum_of(found, multiple_of(drop, e))
        below = tuple([e + one + s for e, one, s in zip(powers, ones, self.run.scale)])
        return (found, self.run.none if found is None else below)

    def scaled_rate(self, g):
        """The size of the rate of a polynomial of some size, times the denominators to the powers of the scale."""
        found = None
        for v in list(g[0]):
            if v == WHOLE:
                continue
            part = partial_of(g, v)
            if v[0] in self.slopes:
                n, powers = self.slopes[v[0]]
                left = tuple([a - b for a, b in zip(self.run.scale, powers)])
                found = sum_of(found, product_of(part, product_of(n, self.bottom(left))))
            elif v[0] in self.run.inputs:
                whole = product_of(letter_size((v[0], v[1] + 1)), self.bottom(self.run.scale))
                found = sum_of(found, product_of(part, whole))
        return found

    def value(self, f):
        """The size of the n of a polynomial's value."""
        tops = self.run.none
        rows = []
        for monomial, c in f:
            size, powers = size_of((((), c),)), self.run.none
            for v, e in monomial:
                part, below = self.letter_value(v)
                size = product_of(size, power_of(part, e))
                powers = tuple([a + e * b for a, b in zip(powers, below)])
            if size is not None:
                rows.append((size, powers))
                tops = tuple([max(a, b) for a, b in zip(tops, powers)])
        found = None
        for size, powers in rows:
            found = sum_of(found, product_of(size, self.bottom(tuple([a - b for a, b in zip(tops, powers)]))))
        return found
