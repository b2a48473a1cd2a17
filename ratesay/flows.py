"""Series of told functions: exactly, and modulo a prime."""

from ratesay.linear import turned
from ratesay.ratios import ONE, ZERO, multiplied, summed


class Flow:
    """The coefficients of the functions of a told system, as fractions, as far as they were asked."""

    def __init__(self, T):
        g, c = T
        self.slopes = {name: p for name, p in g}
        self.numbers = {name: [f] for (name, _), f in zip(g, c)}
        self.products = {}

    def part(self, monomial, k):
        """The coefficient of t to the power k of the function of a monomial; the names must be known so far."""
        if not monomial:
            return ONE if k == 0 else ZERO
        (name, _), e = monomial[0]
        if len(monomial) == 1 and e == 1:
            return self.numbers[name][k]
        row = self.products.setdefault(monomial, [])
        rest = ((monomial[0][0], e - 1), *monomial[1:]) if e > 1 else monomial[1:]
        while len(row) <= k:
            row.append(self.convolved(name, rest, len(row)))
        return row[k]

    def convolved(self, name, rest, k):
        """The coefficient of t to the power k of a name's function times that of a monomial."""
        parts = []
        for i, f in enumerate(self.numbers[name][:k + 1]):
            g = self.part(rest, k - i) if f[0] else ZERO
            if g[0]:
                parts.append((f[0] * g[0], f[1] * g[1]))
        return summed(parts) if parts else ZERO

    def coefficient(self, p, k):
        """The coefficient of t to the power k of the function of a polynomial; the names must be known so far."""
        parts = []
        for monomial, f in p:
            g = self.part(monomial, k)
            if g[0]:
                parts.append((f[0] * g[0], f[1] * g[1]))
        return summed(parts) if parts else ZERO

    def reach(self, k):
        """Makes the coefficients of the names up to t to the power k known."""
        size = min([len(row) for row in self.numbers.values()])
        for at in range(size, k + 1):
            found = [(name, self.coefficient(p, at - 1)) for name, p in self.slopes.items()]
            for name, f in found:
                self.numbers[name].append(multiplied(f, (1, at)))

    def first_of(self, p, most):
        """The least k up to most with a coefficient of t to the power k of p's function that is not 0, or None."""
        for k in range(most + 1):
            self.reach(k)
            if self.coefficient(p, k)[0]:
                return k
        return None


class ModularFlow:
    """The coefficients of the functions of a told system modulo a prime, as far as they were asked.

    TooMany is raised where something is divided by that the prime divides.
    """

    def __init__(self, T, p):
        g, c = T
        self.p = p
        self.slopes = {name: self.residues(q) for name, q in g}
        self.numbers = {name: [self.residue(f)] for (name, _), f in zip(g, c)}
        self.products = {}

    def residue(self, f):
        """A fraction modulo the prime."""
        return f[0] * turned(f[1], self.p) % self.p

    def residues(self, q):
        """The pairs (monomial, residue) of a polynomial."""
        return [(monomial, self.residue(f)) for monomial, f in q]

    def part(self, monomial, k):
        """The coefficient of t to the power k of the function of a monomial; the names must be known so far."""
        if not monomial:
            return 0 if k else 1
        (name, _), e = monomial[0]
        if len(monomial) == 1 and e == 1:
            return self.numbers[name][k]
        row = self.products.setdefault(monomial, [])
        rest = ((monomial[0][0], e - 1), *monomial[1:]) if e > 1 else monomial[1:]
        numbers = self.numbers[name]
        while len(row) <= k:
            at = len(row)
            row.append(sum([numbers[i] * self.part(rest, at - i) for i in range(at + 1)]) % self.p)
        return row[k]

    def reach(self, k):
        """Makes the coefficients of the names up to t to the power k known."""
        size = min([len(row) for row in self.numbers.values()])
        for at in range(size, k + 1):
            turn = turned(at, self.p)
            found = []
            for name, rows in self.slopes.items():
                worth = sum([n * self.part(monomial, at - 1) for monomial, n in rows]) * turn % self.p
                found.append((name, worth))
            for name, n in found:
                self.numbers[name].append(n)
