"""Values at the general run of a model, modulo a prime or a power of one, its letters having fixed values.

What is not 0 there is not 0; what is 0 there may be 0 or not.
"""

from math import factorial

from ratesay.errors import TooMany
from ratesay.linear import turned
from ratesay.polynomials import as_number, scaled
from ratesay.primes import divides_none, great_primes
from ratesay.ratios import inverted

FURTHEST = 1000
# Sums and powers of such an integer modulo a prime are as good as any numbers.
BASE = 46802957128463719283746501928374650198
POINTS = 2
BITS = 127
ROUNDS = 24


def fixed_value(seed, place, k, p):
    """A fixed value modulo a prime, for a seed, a place and an order."""
    found = (seed + 3) * BASE + (place + 5) * 7919 + (k + 7) * 104729
    # So many squares leave no relation of a low degree between the values for many seeds.
    for _ in range(ROUNDS):
        found = (found * found + BASE) % p
    return found


def residues(q, p):
    """The list of (monomial, residue) of a polynomial."""
    return [(monomial, f[0] % p if f[1] == 1 else f[0] * turned(f[1], p) % p) for monomial, f in q]


def integers_of(model):
    """The list of the numerators and denominators in a model."""
    states, _, _, outputs, quantities = model
    found = {}
    for _, pair in [*states, *outputs, *quantities]:
        for p in pair:
            for _, f in p:
                found[f[0]] = True
                found[f[1]] = True
    return list(found)


def prime_for(model, least):
    """A great prime, of at least so many bits, that divides no integer of a model."""
    numbers = integers_of(model)
    for p in great_primes(least):
        if divides_none(p, numbers):
            return p
    raise TooMany()


class Setting:
    """A model modulo a prime or a power of one: what all points of it have in common.

    TooMany is raised where something is divided by that the prime divides.
    """

    def __init__(self, model, p):
        states, self.parameters, self.inputs, outputs, quantities = model
        self.p = p
        self.states = [x for x, _ in states]
        self.rows = {name: self.fraction(pair) for name, pair in [*states, *outputs, *quantities]}
        self.places = {name: k for k, name in enumerate([*self.states, *self.parameters, *self.inputs])}
        self.turns = {}

    def fraction(self, pair):
        """The pair of lists of (monomial, residue) of n and d; None for d if it is a number, n being divided by it."""
        n, d = pair
        f = as_number(d)
        if f is None:
            return (self.ordered(n), self.ordered(d))
        return (self.ordered(scaled(n, inverted(f))), None)

    def ordered(self, q):
        """The list of (monomial, residue) of a polynomial, the letters of parameters first."""
        found = []
        for monomial, n in residues(q, self.p):
            first = [row for row in monomial if row[0][0] in self.parameters]
            found.append((tuple([*first, *[row for row in monomial if row not in first]]), n))
        return found

    def turn(self, n):
        """1 / a little integer."""
        if n not in self.turns:
            self.turns[n] = turned(n, self.p)
        return self.turns[n]


class Sample:
    """The values of letters at one point, as far as they were asked.

    Series of the names are kept as lists of their coefficients. given tells coefficients that are not the fixed ones.
    """

    def __init__(self, setting, seed, given):
        self.setting = setting
        self.p = setting.p
        self.seed = seed
        self.given = given
        self.numbers = {}
        self.products = {}
        self.quotients = {}
        self.worths = {}
        self.turns = {}

    def chosen(self, name, k):
        """The coefficient of t to the power k where it may be chosen."""
        if (name, k) in self.given:
            return self.given[(name, k)]
        return fixed_value(self.seed, self.setting.places[name], k, self.p)

    def first_number(self, name):
        """The list that begins with the value of a state or a parameter."""
        if name not in self.numbers:
            self.numbers[name] = [self.chosen(name, 0)]
        return self.numbers[name]

    def number(self, name, k):
        """The coefficient of t to the power k of a state, a parameter or an input."""
        if name in self.setting.inputs:
            return self.chosen(name, k)
        row = self.first_number(name)
        if k and name in self.setting.parameters:
            return 0
        while len(row) <= k:
            at = len(row)
            row.append(self.quotient(name, at - 1) * self.setting.turn(at) % self.p)
        return row[k]

    def part(self, monomial, k):
        """The coefficient of t to the power k of a monomial."""
        if not monomial:
            return 0 if k else 1
        (name, _), e = monomial[0]
        if len(monomial) == 1 and e == 1:
            return self.number(name, k)
        rest = ((monomial[0][0], e - 1), *monomial[1:]) if e > 1 else monomial[1:]
        if name in self.setting.parameters:
            return self.first_number(name)[0] * self.part(rest, k) % self.p
        row = self.products.setdefault(monomial, [])
        while len(row) <= k:
            at = len(row)
            row.append(sum([self.number(name, i) * self.part(rest, at - i) for i in range(at + 1)]) % self.p)
        return row[k]

    def coefficient(self, rows, k):
        """The coefficient of t to the power k of a list of (monomial, residue)."""
        return sum([n * self.part(monomial, k) for monomial, n in rows]) % self.p

    def quotient(self, name, k):
        """The coefficient of t to the power k of the n / d of a state, an output or a quantity."""
        high, low = self.setting.rows[name]
        if low is None:
            return self.coefficient(high, k)
        row = self.quotients.setdefault(name, [])
        if not row:
            self.turns[name] = turned(self.coefficient(low, 0), self.p)
        while len(row) <= k:
            at = len(row)
            worth = self.coefficient(high, at) - sum([row[i] * self.coefficient(low, at - i) for i in range(at)])
            row.append(worth * self.turns[name] % self.p)
        return row[k]

    def worth(self, v):
        """The value of a letter."""
        if v not in self.worths:
            name, k = v
            own = name in self.setting.places
            found = self.number(name, k) if own else self.quotient(name, k)
            # No series goes so far, so a high rate of an input may have any value.
            high = own and name in self.setting.inputs and k > FURTHEST
            self.worths[v] = found if high else found * factorial(k) % self.p
        return self.worths[v]

    def power(self, v, e):
        """The value of a letter to a power."""
        found = 1
        square = self.worth(v)
        left = e
        while left:
            if left & 1:
                found = found * square % self.p
            square = square * square % self.p
            left = left >> 1
        return found

    def value(self, q):
        """The value of a polynomial."""
        total = 0
        powers = {}
        for monomial, f in q:
            found = f[0] if f[1] == 1 else f[0] * turned(f[1], self.p)
            for v, e in monomial:
                if (v, e) not in powers:
                    powers[(v, e)] = self.power(v, e)
                found = found * powers[(v, e)] % self.p
            total += found
        return total % self.p


class Oracle:
    """Tells of polynomials whether they are 0 at two points of a model: what is not 0 there is not 0."""

    def __init__(self, model):
        setting = Setting(model, prime_for(model, BITS))
        self.samples = [Sample(setting, seed, {}) for seed in range(POINTS)]

    def is_zero(self, q):
        """Whether a polynomial is 0 at both points."""
        for sample in self.samples:
            if sample.value(q):
                return False
        return True
