"""Values at the general run of a model, modulo a prime or a power of one, its letters having fixed values.

What is not 0 there is not 0; what is 0 there may be 0 or not.
"""

from math import factorial

from ratesay.errors import TooMany
from ratesay.linear import turned
from ratesay.primes import divides_none, great_primes

FURTHEST = 1000
# Sums and powers of such an integer modulo a prime are as good as any numbers.
BASE = 46802957128463719283746501928374650198
POINTS = 2
BITS = 127
ROUNDS = 24


def fixed_value(seed, place, k, p):
    """A fixed value modulo a prime, for a seed, a place and an order."""
    found = (seed + 3) * BASE + (place + 5) * 7919 + (k + 7) * 104729
    # So many squares leave no relation of a low degree between the values for many seeds.
    for _ in range(ROUNDS):
        found = (found * found + BASE) % p
    return found


def residues(q, p):
    """The list of (monomial, residue) of a polynomial."""
    return [(monomial, f[0] % p if f[1] == 1 else f[0] * turned(f[1], p) % p) for monomial, f in q]


def integers_of(model):
    """The list of the numerators and denominators in a model."""
    states, _, _, outputs, quantities = model
    found = {}
    for _, pair in [*states, *outputs, *quantities]:
        for p in pair:
            for _, f in p:
                found[f[0]] = True
                found[f[1]] = True
    return list(found)


def prime_for(model, least):
    """A great prime, of at least so many bits, that divides no integer of a model."""
    numbers = integers_of(model)
    for p in great_primes(least):
        if divides_none(p, numbers):
            return p
    raise TooMany()


class Sample:
    """The values of letters at one point, as far as they were asked.

    Series of the names are kept as lists of their coefficients. given tells coefficients that are not the fixed ones.
    TooMany is raised where something that is 0 modulo the prime p is divided by.
    """

    def __init__(self, model, seed, p, given):
        states, parameters, inputs, outputs, quantities = model
        self.p = p
        self.seed = seed
        self.given = given
        self.slopes = {x: (residues(n, self.p), residues(d, self.p)) for x, (n, d) in states}
        self.told = {z: (residues(n, self.p), residues(d, self.p)) for z, (n, d) in [*outputs, *quantities]}
        self.places = {name: k for k, name in enumerate([*self.slopes, *parameters, *inputs])}
        self.inputs = inputs
        self.numbers = {name: [self.chosen(name, 0)] for name in [*self.slopes, *parameters]}
        self.products = {}
        self.quotients = {name: [] for name in [*self.slopes, *self.told]}
        self.worths = {}
        self.turns = {}

    def chosen(self, name, k):
        """The coefficient of t to the power k where it may be chosen."""
        if (name, k) in self.given:
            return self.given[(name, k)]
        return fixed_value(self.seed, self.places[name], k, self.p)

    def number(self, name, k):
        """The coefficient of t to the power k of a state, a parameter or an input."""
        if name in self.inputs:
            return self.chosen(name, k)
        if name not in self.slopes:
            return 0 if k else self.numbers[name][0]
        row = self.numbers[name]
        while len(row) <= k:
            at = len(row)
            row.append(self.quotient(name, at - 1) * turned(at, self.p) % self.p)
        return row[k]

    def part(self, monomial, k):
        """The coefficient of t to the power k of a monomial."""
        if not monomial:
            return 0 if k else 1
        (name, _), e = monomial[0]
        if len(monomial) == 1 and e == 1:
            return self.number(name, k)
        row = self.products.setdefault(monomial, [])
        rest = ((monomial[0][0], e - 1), *monomial[1:]) if e > 1 else monomial[1:]
        while len(row) <= k:
            at = len(row)
            row.append(sum([self.number(name, i) * self.part(rest, at - i) for i in range(at + 1)]) % self.p)
        return row[k]

    def coefficient(self, rows, k):
        """The coefficient of t to the power k of a list of (monomial, residue)."""
        return sum([n * self.part(monomial, k) for monomial, n in rows]) % self.p

    def quotient(self, name, k):
        """The coefficient of t to the power k of the n / d of a state, an output or a quantity."""
        high, low = self.slopes[name] if name in self.slopes else self.told[name]
        row = self.quotients[name]
        while len(row) <= k:
            at = len(row)
            worth = self.coefficient(high, at) - sum([row[i] * self.coefficient(low, at - i) for i in range(at)])
            row.append(worth * self.turn(name) % self.p)
        return row[k]

    def turn(self, name):
        """1 / the value of the d of a state, an output or a quantity."""
        if name not in self.turns:
            _, low = self.slopes[name] if name in self.slopes else self.told[name]
            self.turns[name] = turned(self.coefficient(low, 0), self.p)
        return self.turns[name]

    def worth(self, v):
        """The value of a letter."""
        if v not in self.worths:
            name, k = v
            found = self.quotient(name, k) if name in self.told else self.number(name, k)
            # No series goes so far, so a high rate of an input may have any value.
            high = name in self.inputs and k > FURTHEST
            self.worths[v] = found if high else found * factorial(k) % self.p
        return self.worths[v]

    def power(self, v, e):
        """The value of a letter to a power."""
        found = 1
        square = self.worth(v)
        left = e
        while left:
            if left & 1:
                found = found * square % self.p
            square = square * square % self.p
            left = left >> 1
        return found

    def value(self, q):
        """The value of a polynomial."""
        total = 0
        powers = {}
        for monomial, f in q:
            found = f[0] if f[1] == 1 else f[0] * turned(f[1], self.p)
            for v, e in monomial:
                if (v, e) not in powers:
                    powers[(v, e)] = self.power(v, e)
                found = found * powers[(v, e)] % self.p
            total += found
        return total % self.p


class Oracle:
    """Tells of polynomials whether they are 0 at two points of a model: what is not 0 there is not 0."""

    def __init__(self, model):
        p = prime_for(model, BITS)
        self.samples = [Sample(model, seed, p, {}) for seed in range(POINTS)]

    def is_zero(self, q):
        """Whether a polynomial is 0 at both points."""
        for sample in self.samples:
            if sample.value(q):
                return False
        return True
