"""Vectors of polynomials at which the rows of a matrix of polynomials are 0."""

from math import gcd, lcm

from ratesay.errors import TooMany
from ratesay.polynomials import UNIT, as_number, common_divisor, less, quotient, scaled, times
from ratesay.ratios import reduced

# With common divisors little polynomials stay little; great ones are left to determinants.
LITTLE = 1500
GREAT = 60000
MOST_TOIL = 100000000
# Common divisors of greater polynomials are not looked for.
MOST_COMMON = 20000


class Reduction:
    """Rows of polynomials, each solved for one of the first many columns that no other one has."""

    def __init__(self, rows, many, most):
        self.many = many
        self.most = most
        self.waiting = [list(row) for row in rows]
        self.solved = []
        self.spent = 0

    def toil(self, amount):
        """Gives up when the work is too great."""
        self.spent += amount
        if self.spent > MOST_TOIL:
            raise TooMany()

    def run(self):
        """Solves all rows."""
        while self.waiting:
            found = []
            for k, row in enumerate(self.waiting):
                for column, p in enumerate(row[:self.many]):
                    if p:
                        found.append((len(p), sum([len(q) for q in row]), k, column))
            if not found:
                return
            _, _, k, column = min(found)
            pivot = self.waiting.pop(k)
            self.solve(pivot, column)
            self.solved.append((column, pivot))

    def solve(self, pivot, column):
        """Takes a column out of all other rows."""
        self.waiting = [self.without(row, pivot, column) for row in self.waiting]
        self.solved = [(other, self.without(row, pivot, column)) for other, row in self.solved]

    def without(self, row, pivot, column):
        """A row without a column, by a row that is solved for it."""
        if not row[column]:
            return row
        common = common_divisor(pivot[column], row[column])
        a, b = quotient(pivot[column], common), quotient(row[column], common)
        return without_content(self.combined(a, row, b, pivot))

    def combined(self, a, row, b, pivot):
        """The row a times row less b times pivot."""
        found = []
        for p, q in zip(row, pivot):
            self.toil(len(a) * len(p) + len(b) * len(q))
            r = less(times(a, p), times(b, q))
            if len(r) > self.most:
                raise TooMany()
            found.append(r)
        return found

    def columns(self, count):
        """The columns for which no row is solved."""
        taken = [column for column, _ in self.solved]
        return [column for column in range(count) if column not in taken]

    def vector(self, column, count):
        """The vector at which all rows are 0 that has something other than 0 at a column for which none is solved."""
        scale = UNIT
        for at, row in self.solved:
            if row[column]:
                p = quotient(row[at], common_divisor(row[at], row[column]))
                scale = times(scale, quotient(p, common_divisor(scale, p)))
        return self.scaled_vector(column, count, scale)

    def scaled_vector(self, column, count, scale):
        """The vector with a told polynomial at a column."""
        found = [() for _ in range(count)]
        found[column] = scale
        for at, row in self.solved:
            if row[column]:
                self.toil(len(scale) * len(row[column]))
                found[at] = less((), quotient(times(scale, row[column]), row[at]))
        return without_content(found)


class Determinants(Reduction):
    """Rows of polynomials, each solved for a column; all that stands in them are determinants."""

    def __init__(self, rows, many):
        Reduction.__init__(self, rows, many, GREAT)
        self.last = UNIT

    def solve(self, pivot, column):
        """Takes a column out of all other rows, and divides them by the determinant before."""
        super().solve(pivot, column)
        self.last = pivot[column]

    def without(self, row, pivot, column):
        """A row without a column, by a row that is solved for it."""
        return [quotient(p, self.last) for p in self.combined(pivot[column], row, row[column], pivot)]

    def vector(self, column, count):
        """The vector at which all rows are 0 that has something other than 0 at a column for which none is solved."""
        found = [() for _ in range(count)]
        found[column] = self.last
        for at, row in self.solved:
            found[at] = less((), row[column])
        return without_content(found)


def without_content(row):
    """A row of polynomials without what all of them have in common, as far as that is easily found."""
    common = ()
    for _, p in sorted([(len(p), p) for p in row if p]):
        if len(common) * len(p) > MOST_COMMON:
            return plain_row(row)
        common = common_divisor(common, p)
        if as_number(common) is not None:
            return plain_row(row)
    if not common:
        return row
    return plain_row([quotient(p, common) for p in row])


def plain_row(row):
    """A row without the fraction that all of it has in common."""
    common, scale = 0, 1
    for p in row:
        for _, f in p:
            common = gcd(common, f[0])
            scale = lcm(scale, f[1])
    if common == 0:
        return row
    return [scaled(p, reduced(scale, common)) for p in row]


def reduction_of(rows, many):
    """Rows of polynomials, each solved for one of the first many columns that no other one has."""
    found = Reduction(rows, many, LITTLE)
    try:
        found.run()
    except TooMany:
        found = Determinants(rows, many)
        found.run()
    return found
