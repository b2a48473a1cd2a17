"""Whether a polynomial is 0 at the general run of a model, by its values at so many points that they tell it surely.

Let N be a polynomial whose monomials have exponents among some tuples, such that with each tuple all lesser ones are
among them. If N is 0 at the points (b_1 + i_1, b_2 + i_2, ..) for all these tuples i, N is 0: written by the products
of (x_1 - b_1) (x_1 - b_1 - 1) .. it has as many coefficients as there are points, and the points of the least tuples
tell those of the least products. The same holds modulo a power of a prime above all i; so if the power is more than
twice the amount of each coefficient, N itself is 0.
"""

from ratesay.errors import TooMany
from ratesay.linear import turned
from ratesay.primes import Primes
from ratesay.ratios import integer_power
from ratesay.samples import Sample, Setting, fixed_value
from ratesay.sizes import WHOLE

# Points are taken so many at once.
CHUNK = 200


def letters_in(size):
    """The list of the letters of a size, ascending."""
    return sorted([v for v, e in size[0].items() if v != WHOLE and e])


def count_points(size):
    """The number of the tuples of exponents that a size lets."""
    whole = size[0][WHOLE]
    table = [1, *[0 for _ in range(whole)]]
    for v in letters_in(size):
        top = size[0][v]
        found = []
        total = 0
        for k in range(whole + 1):
            total += table[k] - (table[k - top - 1] if k > top else 0)
            found.append(total)
        table = found
    return sum(table)


def exponents_in(size):
    """The list of the tuples of exponents that a size lets."""
    rows = [((), 0)]
    for v in letters_in(size):
        longer = []
        for row, total in rows:
            for e in range(min(size[0][v], size[0][WHOLE] - total) + 1):
                longer.append(((*row, e), total + e))
        rows = longer
    return [row for row, _ in rows]


def modulus_above(p, bound):
    """The least power of a prime above a bound."""
    e = 1
    while integer_power(p, e) <= bound:
        e += 1
    return integer_power(p, e)


class Chunk:
    """The values of polynomials at some points."""

    def __init__(self, samples, m):
        self.samples = samples
        self.m = m
        self.known = {(): [1 for _ in samples]}

    def powers(self, v, e):
        """The values of a letter to a power from 1 on."""
        key = ((v, e),)
        if key not in self.known:
            first = self.powers(v, 1) if e > 1 else [sample.worth(v) for sample in self.samples]
            low = self.powers(v, e - 1) if e > 1 else self.known[()]
            self.known[key] = [a * b % self.m for a, b in zip(first, low)]
        return self.known[key]

    def worths(self, monomial):
        """The values of a monomial."""
        if monomial not in self.known:
            v, e = monomial[-1]
            self.known[monomial] = [a * b % self.m for a, b in zip(self.worths(monomial[:-1]), self.powers(v, e))]
        return self.known[monomial]

    def is_zero(self, f):
        """Whether a polynomial is 0 at all points."""
        total = [0 for _ in self.samples]
        for monomial, (n, d) in f:
            c = n if d == 1 else n * turned(d, self.m) % self.m
            total = [t + c * worth for t, worth in zip(total, self.worths(monomial))]
        return [t for t in total if t % self.m] == []


def is_zero_on(model, f, size, m, seed):
    """Whether a polynomial is 0 at the points of a size modulo m; TooMany if one of them lets no denominator be."""
    letters = letters_in(size)
    bases = [fixed_value(seed, place, 0, m) for place, _ in enumerate(letters)]
    points = exponents_in(size)
    setting = Setting(model, m)
    for start in range(0, len(points), CHUNK):
        samples = []
        for row in points[start:start + CHUNK]:
            given = {v: (base + e) % m for v, base, e in zip(letters, bases, row)}
            samples.append(Sample(setting, seed, given))
        if not Chunk(samples, m).is_zero(f):
            return False
    return True


def is_zero_by_grid(model, f, size):
    """Whether a polynomial, whose value has some size, is 0 at the general run."""
    primes = Primes(0)
    seed = 0
    while True:
        p = primes.another()
        seed += 1
        try:
            return is_zero_on(model, f, size, modulus_above(p, 2 * size[1]), seed)
        except TooMany:
            # The prime divides what is divided by; there are others.
            pass
