"""Series over the numbers of a tower that begin at a point and go along explicit equations."""

from ratesay.polynomials import UNIT, scaled
from ratesay.tower_numbers import product_sum


class TowerFlow:
    """The coefficients of the functions that begin at a point, numbers of a tower, as far as they were asked."""

    def __init__(self, g, tower, point):
        self.tower = tower
        self.slopes = {name: p for name, p in g}
        self.numbers = {name: [u] for (name, _), u in zip(g, point)}
        self.products = {}

    def part(self, monomial, k):
        """The coefficient of t to the power k of the function of a monomial; the names must be known so far."""
        if not monomial:
            return () if k else UNIT
        (name, _), e = monomial[0]
        if len(monomial) == 1 and e == 1:
            return self.numbers[name][k]
        row = self.products.setdefault(monomial, [])
        rest = ((monomial[0][0], e - 1), *monomial[1:]) if e > 1 else monomial[1:]
        while len(row) <= k:
            row.append(self.convolved(name, rest, len(row)))
        return row[k]

    def convolved(self, name, rest, k):
        """The coefficient of t to the power k of a name's function times that of a monomial."""
        numbers = self.numbers[name][:k + 1]
        return product_sum(self.tower, [(u, self.part(rest, k - i)) for i, u in enumerate(numbers) if u])

    def coefficient(self, p, k):
        """The coefficient of t to the power k of the function of a polynomial; the names must be known so far."""
        return product_sum(self.tower, [(self.part(monomial, k), (((), f),)) for monomial, f in p])

    def reach(self, k):
        """Makes the coefficients of the names up to t to the power k known."""
        size = min([len(row) for row in self.numbers.values()])
        for at in range(size, k + 1):
            found = [(name, self.coefficient(p, at - 1)) for name, p in self.slopes.items()]
            for name, u in found:
                self.numbers[name].append(scaled(u, (1, at)))
