"""The general run of a model: fractions whose denominators are products of the model's d.

A value is a pair (n, powers): the polynomial n divided by the product of the denominators
to the powers, a tuple with one exponent for each denominator.
"""

from ratesay.polynomials import (
    UNIT,
    as_number,
    coefficients,
    letter,
    letters_of,
    partial,
    plus,
    quotient,
    raised,
    scaled,
    times,
)
from ratesay.ratios import integer_power, inverted


class Run:
    """The general run of a model, with the values of letters that were asked."""

    def __init__(self, model):
        states, parameters, inputs, outputs, quantities = model
        self.inputs = inputs
        self.parameters = parameters
        self.bottoms = []
        for _, (_, d) in [*states, *outputs, *quantities]:
            if as_number(d) is None and d not in self.bottoms:
                self.bottoms.append(d)
        self.none = tuple([0 for _ in self.bottoms])
        self.slopes = {x: self.fraction(pair) for x, pair in states}
        self.told = {z: self.fraction(pair) for z, pair in [*outputs, *quantities]}
        self.known = {}
        self.scale = tuple([max([0, *[powers[k] for _, powers in self.slopes.values()]])
                            for k in range(len(self.bottoms))])

    def fraction(self, pair):
        """The value n / d of a pair (n, d) of the model."""
        n, d = pair
        f = as_number(d)
        if f is not None:
            return (scaled(n, inverted(f)), self.none)
        at = self.bottoms.index(d)
        return (n, tuple([1 if k == at else 0 for k in range(len(self.none))]))

    def bottom(self, powers):
        """The product of the denominators to some powers."""
        found = UNIT
        for d, e in zip(self.bottoms, powers):
            found = times(found, raised(d, e))
        return found

    def pair_of(self, value):
        """The pair (n, d) of a value."""
        return (value[0], self.bottom(value[1]))

    def lowered(self, n, powers):
        """The value n over the denominators to some powers, without those that divide n."""
        if not n:
            return ((), self.none)
        found = list(powers)
        for k, d in enumerate(self.bottoms):
            q = quotient(n, d) if found[k] else None
            while q is not None:
                n = q
                found[k] -= 1
                q = quotient(n, d) if found[k] else None
        return (n, tuple(found))

    def scaled_rate(self, g):
        """The rate of a polynomial in the letters of F, times the denominators to the powers of the scale."""
        found = ()
        for name, k in letters_of(g):
            part = partial(g, (name, k))
            if name in self.slopes:
                n, powers = self.slopes[name]
                left = tuple([a - b for a, b in zip(self.scale, powers)])
                found = plus(found, times(part, times(n, self.bottom(left))))
            elif name in self.inputs:
                found = plus(found, times(part, times(letter(name, k + 1), self.bottom(self.scale))))
        return found

    def rate(self, value):
        """The rate of a value."""
        n, powers = value
        used = [k for k, e in enumerate(powers) if e]
        ones = tuple([1 if e else 0 for e in powers])
        found = times(self.scaled_rate(n), self.bottom(ones))
        for k in used:
            others = tuple([1 if e and j != k else 0 for j, e in enumerate(powers)])
            drop = times(times(n, self.scaled_rate(self.bottoms[k])), self.bottom(others))
            found = plus(found, scaled(drop, (-powers[k], 1)))
        below = tuple([e + one + s for e, one, s in zip(powers, ones, self.scale)])
        return self.lowered(found, below)

    def letter_value(self, v):
        """The value of a letter at the general run."""
        name, k = v
        if name in self.inputs:
            return (letter(name, k), self.none)
        if name in self.parameters:
            return (letter(name, 0) if k == 0 else (), self.none)
        if v not in self.known:
            if k:
                low = self.letter_value((name, k - 1))
                found = self.slopes[name] if k == 1 and name in self.slopes else self.rate(low)
            elif name in self.slopes:
                found = (letter(name, 0), self.none)
            else:
                found = self.told[name]
            self.known[v] = found
        return self.known[v]

    def value(self, f):
        """The value of a polynomial at the general run."""
        rows = []
        tops = list(self.none)
        for monomial, _ in f:
            powers = list(self.none)
            for v, e in monomial:
                for k, one in enumerate(self.letter_value(v)[1]):
                    powers[k] += e * one
            rows.append(powers)
            tops = [max(a, b) for a, b in zip(tops, powers)]
        found = ()
        for (monomial, f0), powers in zip(f, rows):
            part = (((), f0),)
            for v, e in monomial:
                part = times(part, raised(self.letter_value(v)[0], e))
            found = plus(found, times(part, self.bottom([a - b for a, b in zip(tops, powers)])))
        return self.lowered(found, tuple(tops))


def rate_letter(name, k):
    """The polynomial of a letter."""
    return letter(name, k)


def value_with(p, v, t):
    """The polynomial with the integer t for a letter."""
    found = ()
    for k, c in enumerate(coefficients(p, v)):
        found = plus(found, scaled(c, (integer_power(t, k), 1)))
    return found
