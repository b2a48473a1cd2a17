"""Linear equations over the fractions, solved modulo great primes; what is found is gone through exactly.

A row is a dict from columns, which are integers from 0 on, to integers. Of several columns the
highest one is solved for.
"""

from math import gcd, isqrt, lcm

from ratesay.errors import TooMany
from ratesay.ratios import ZERO

# The exponents of Mersenne primes: fractions with more digits ask for greater ones.
EXPONENTS = (127, 521, 1279, 4423, 11213, 44497)
# The column of what a sum shall come to; it is solved for nothing.
TARGET = -1


def prime_of(exponent):
    """A Mersenne prime."""
    return (1 << exponent) - 1


def inverse_modulo(n, p):
    """1 / n modulo a prime that does not divide n."""
    a, b = p, n % p
    u, v = 0, 1
    while b > 1:
        q = a // b
        a, b = b, a - q * b
        u, v = v, u - q * v
    return v % p


def integer_row(row):
    """A row of fractions, a dict from columns, as integers."""
    scale = 1
    for f in row.values():
        scale = lcm(scale, f[1])
    return {column: f[0] * (scale // f[1]) for column, f in row.items() if f[0]}


class Echelon:
    """Rows modulo a prime, each solved for a column that no other one has."""

    def __init__(self, p):
        self.p = p
        self.rows = {}

    def reduced(self, row):
        """A row without the columns that are solved for."""
        found = {column: n % self.p for column, n in row.items() if n % self.p}
        for column in list(found):
            if column in self.rows:
                self.subtract(found, column)
        return found

    def subtract(self, row, column):
        """Takes a column out of a row, in place."""
        factor = row.pop(column)
        for other, n in self.rows[column].items():
            worth = (row.get(other, 0) - factor * n) % self.p
            if worth:
                row[other] = worth
            else:
                row.pop(other, None)

    def take(self, row):
        """Adds a row; the column for which it is solved, None if it tells nothing new."""
        found = self.reduced(row)
        top = max(found, default=TARGET)
        if top == TARGET:
            return None if not found else TARGET
        turn = inverse_modulo(found.pop(top), self.p)
        found = {column: n * turn % self.p for column, n in found.items()}
        self.rows[top] = found
        for column, other in self.rows.items():
            if column != top and top in other:
                self.subtract(other, top)
        return top


def fraction_of(n, p):
    """The fraction with a small numerator and denominator that is n modulo p, or None."""
    bound = isqrt(p // 2)
    a, b = p, n % p
    u, v = 0, 1
    while b > bound:
        q = a // b
        a, b = b, a - q * b
        u, v = v, u - q * v
    if v == 0 or abs(v) > bound or gcd(b, v) != 1:
        return None
    return (b, v) if v > 0 else (-b, -v)


def fractions_of(row, p):
    """The dict of the fractions of a dict of residues, or None."""
    found = {}
    for column, n in row.items():
        f = fraction_of(n, p)
        if f is None:
            return None
        found[column] = f
    return found


def is_kernel_vector(rows, vector):
    """Whether a dict of fractions is 0 on all rows."""
    worth = integer_row(vector)
    for row in rows:
        total = 0
        for column, n in row.items():
            if column in worth:
                total += n * worth[column]
        if total:
            return False
    return True


def kernel_modulo(rows, count, p):
    """The list of the vectors of the kernel of rows with so many columns, as residues; each begins with a 1."""
    echelon = Echelon(p)
    for row in rows:
        echelon.take(row)
    found = []
    for column in range(count):
        if column not in echelon.rows:
            vector = {column: 1}
            for other, row in echelon.rows.items():
                if column in row:
                    vector[other] = p - row[column]
            found.append(vector)
    return found


def kernel(rows, count):
    """The vectors, dicts of fractions, at which all rows are 0.

    Each one has the coefficient 1 at its first column, which no other one has; they ascend by these.
    """
    for exponent in EXPONENTS:
        p = prime_of(exponent)
        found = [fractions_of(vector, p) for vector in kernel_modulo(rows, count, p)]
        # There are at most as many as modulo a prime, so what is right is all.
        if None not in found and not [v for v in found if not is_kernel_vector(rows, v)]:
            return found
    raise TooMany()


def solved_modulo(rows, p):
    """The dict of a solution, as residues, of rows with a target each; None if there is none."""
    echelon = Echelon(p)
    for row in rows:
        if echelon.take(row) == TARGET:
            return None
    return {column: row[TARGET] for column, row in echelon.rows.items() if TARGET in row}


def is_solution(rows, vector):
    """Whether a dict of fractions solves rows with a target each."""
    whole = {column: f for column, f in vector.items()}
    whole[TARGET] = (-1, 1)
    return is_kernel_vector(rows, whole)


def solution(rows):
    """A dict of fractions that solves rows, each of which tells its target in the column TARGET; None if none does.

    Columns that it lacks are 0.
    """
    failed = 0
    for exponent in EXPONENTS:
        p = prime_of(exponent)
        found = solved_modulo(rows, p)
        if found is None:
            # A single prime could divide what is not 0.
            failed += 1
            if failed == 2:
                return None
            continue
        vector = fractions_of(found, p)
        if vector is not None and is_solution(rows, vector):
            return {column: f for column, f in vector.items() if f != ZERO}
    raise TooMany()
