"""Combinations of rows of polynomials, told by the determinants of the first rows, without their common factors."""

from ratesay.errors import TooMany
from ratesay.minors import grown
from ratesay.packing import sum_of_products
from ratesay.polynomials import less, quotient, scaled, times


class Wedge:
    """The determinants of the first rows, by the tuples of their columns, for each number of rows.

    Those of one number of rows are divided by the known factors that all of them have in common. The bounds are those
    of the pairs of a polynomial and of the products of pairs.
    """

    def __init__(self, rows, count, parts, bounds):
        most, self.many = bounds
        self.count = count
        self.parts = parts
        self.rows = rows
        self.tables = [{(): (((), (1, 1)),)}]
        self.spent = 0
        for row in rows:
            table = grown(self.tables[-1], row, count, most, self.many)
            columns = list(table)
            found = parts.divided([table[key] for key in columns])
            self.tables.append({key: p for key, p in zip(columns, found) if p})

    def toil(self, pairs):
        """Gives up when products take too long."""
        self.spent += sum([len(p) * len(q) for p, q in pairs])
        if self.spent > self.many:
            raise TooMany()

    def kernel_vector(self, columns):
        """A vector, with parts other than 0 at some columns alone, one more than rows, at which all rows are 0."""
        table = self.tables[-1]
        found = [() for _ in range(self.count)]
        for at, k in enumerate(columns):
            p = table.get(tuple([column for column in columns if column != k]), ())
            found[k] = scaled(p, (-1, 1)) if at & 1 else p
        return self.parts.divided(found)

    def with_row(self, k, row, columns):
        """The determinant of the first k rows and one more, in some columns."""
        pairs = []
        for at, column in enumerate(columns):
            p = self.tables[k].get(tuple([other for other in columns if other != column]), ())
            if p and row[column]:
                pairs.append((p, scaled(row[column], (-1, 1)) if (k - at) & 1 else row[column]))
        self.toil(pairs)
        return sum_of_products(pairs)

    def fraction(self, k, row):
        """The pair (a, b): a row, a combination of the rows up to the k-th, has a / b of the k-th one."""
        columns = min([(len(p), key) for key, p in self.tables[k + 1].items()])[1]
        return (self.with_row(k, row, columns), self.with_row(k, self.rows[k], columns))

    def combination(self, row):
        """The list of multipliers of all rows, and that of a row which is their sum; None if it is no combination."""
        found = [() for _ in self.rows]
        scale = (((), (1, 1)),)
        for k in range(len(self.rows) - 1, -1, -1):
            a, b = self.fraction(k, row)
            a, b = self.lowest_terms(a, b)
            found = [self.product(b, c) for c in found]
            scale = self.product(b, scale)
            found[k] = a
            row = [less(self.product(b, p), self.product(a, q)) for p, q in zip(row, self.rows[k])]
        return None if [p for p in row if p] else [*found, scale]

    def product(self, p, q):
        """The product of two polynomials."""
        self.toil([(p, q)])
        return times(p, q)

    def lowest_terms(self, a, b):
        """a / b without what they are known to have in common, b being 1 if it divides a up to known factors."""
        if not a:
            return ((), (((), (1, 1)),))
        p, high = self.parts.parted(a)
        q, low = self.parts.parted(b)
        whole = quotient(p, q)
        if whole is not None:
            p, q = whole, (((), (1, 1)),)
        shared = [min(e, f) for e, f in zip(high, low)]
        p = times(p, self.parts.product([e - f for e, f in zip(high, shared)]))
        return (p, times(q, self.parts.product([e - f for e, f in zip(low, shared)])))
