"""Linear equations over the fractions, solved modulo great primes; what is found is gone through exactly.

A row is a dict from columns, which are integers from 0 on, to integers. Of several columns the
highest one is solved for.
"""

from math import gcd, isqrt, lcm

from ratesay.errors import TooMany
from ratesay.primes import Primes
from ratesay.ratios import ZERO, reduced

# The column of what a sum shall come to; it is solved for nothing.
TARGET = -1
# Of the prime that is tried first.
BITS = 127
# So many digits of solutions are told ahead of the first look at them.
FIRST_DIGITS = 4


def inverse_modulo(n, p):
    """1 / n modulo a prime that does not divide n."""
    a, b = p, n % p
    u, v = 0, 1
    while b > 1:
        q = a // b
        a, b = b, a - q * b
        u, v = v, u - q * v
    return v % p


def turned(n, p):
    """1 / n modulo a prime or a power of one; TooMany if there is none."""
    if n == 1:
        return 1
    found = inverse_modulo(n, p)
    if found * n % p != 1:
        raise TooMany()
    return found


def integer_row(row):
    """A row of fractions, a dict from columns, as integers."""
    scale = 1
    for f in row.values():
        scale = lcm(scale, f[1])
    return {column: f[0] * (scale // f[1]) for column, f in row.items() if f[0]}


class Echelon:
    """Rows modulo a prime, each solved for a column that no other one has."""

    def __init__(self, p):
        self.p = p
        self.rows = {}
        self.odd = None

    def reduced(self, row):
        """A row without the columns that are solved for."""
        found = {column: n % self.p for column, n in row.items() if n % self.p}
        for column in list(found):
            if column in self.rows:
                self.subtract(found, column)
        return found

    def subtract(self, row, column):
        """Takes a column out of a row, in place."""
        factor = row.pop(column)
        for other, n in self.rows[column].items():
            worth = (row.get(other, 0) - factor * n) % self.p
            if worth:
                row[other] = worth
            else:
                row.pop(other, None)

    def take(self, row):
        """Adds a row; the column for which it is solved, None if it tells nothing new."""
        found = self.reduced(row)
        top = max(found, default=TARGET)
        if top == TARGET:
            return None if not found else TARGET
        turn = inverse_modulo(found.pop(top), self.p)
        found = {column: n * turn % self.p for column, n in found.items()}
        self.rows[top] = found
        for column, other in self.rows.items():
            if column != top and top in other:
                self.subtract(other, top)
        return top


def fraction_of(n, p):
    """The fraction with a small numerator and denominator that is n modulo p, or None."""
    bound = isqrt(p // 2)
    a, b = p, n % p
    u, v = 0, 1
    while b > bound:
        q = a // b
        a, b = b, a - q * b
        u, v = v, u - q * v
    if v == 0 or abs(v) > bound or gcd(b, v) != 1:
        return None
    return (b, v) if v > 0 else (-b, -v)


def fractions_of(row, p):
    """The dict of the fractions of a dict of residues, or None."""
    found = {}
    for column, n in row.items():
        f = fraction_of(n, p)
        if f is None:
            return None
        found[column] = f
    return found


def is_kernel_vector(rows, vector):
    """Whether a dict of fractions is 0 on all rows."""
    worth = integer_row(vector)
    for row in rows:
        total = 0
        for column, n in row.items():
            if column in worth:
                total += n * worth[column]
        if total:
            return False
    return True


def inverse_columns(rows, columns, p):
    """The dict from columns to lists: those of the inverse, modulo a prime, of rows with as many columns."""
    echelon = Echelon(p)
    for k, row in enumerate(rows):
        few = {column: row[column] for column in columns if column in row}
        # What each row adds stands below all columns.
        few[TARGET - 1 - k] = 1
        echelon.take(few)
    found = {}
    for column, row in echelon.rows.items():
        found[column] = [row.get(TARGET - 1 - k, 0) for k, _ in enumerate(rows)]
    return found


def lifted(rows, columns, targets, p):
    """The dict of fractions that solves rows, independent modulo a prime, with as many columns, for some targets.

    The solution is told digit by digit in powers of the prime, until the fractions are seen.
    """
    if not columns:
        return {}
    inverse = inverse_columns(rows, columns, p)
    table = [[(column, row[column]) for column in columns if column in row] for row in rows]
    totals = {column: 0 for column in columns}
    left = list(targets)
    m = 1
    digits = 0
    look = FIRST_DIGITS
    while True:
        low = [n % p for n in left]
        digit = {}
        for column in columns:
            digit[column] = sum([a * b for a, b in zip(inverse[column], low)]) % p
            totals[column] += digit[column] * m
        left = [(n - sum([a * digit[column] for column, a in row])) // p for n, row in zip(left, table)]
        m *= p
        digits += 1
        if digits == look:
            look = 2 * look
            found = common_fractions(totals, m)
            if found is not None and solves(table, targets, found):
                return found


def solves(table, targets, vector):
    """Whether a dict of fractions solves rows, lists of (column, integer), for some targets."""
    scale = 1
    for f in vector.values():
        scale = lcm(scale, f[1])
    whole = {column: f[0] * (scale // f[1]) for column, f in vector.items()}
    for row, target in zip(table, targets):
        if sum([a * whole[column] for column, a in row]) != target * scale:
            return False
    return True


def common_fractions(totals, m):
    """The dict of the fractions of a dict of residues, found by common denominators; None if some are not seen."""
    bound = isqrt(m // 2)
    scale = 1
    found = {}
    for column, total in totals.items():
        n = total * scale % m
        n = n - m if 2 * n > m else n
        if abs(n) > bound:
            f = fraction_of(n % m, m)
            if f is None:
                return None
            n = f[0]
            found = {other: f[1] * k for other, k in found.items()}
            scale *= f[1]
        found[column] = n
    return {column: reduced(n, scale) for column, n in found.items()}


def eliminated(rows, p):
    """The pair (echelon, taken): rows modulo a prime, and the places and columns of those that tell something new.

    Rows whose columns add up to nothing but a target are left out; the place of the first one is told as echelon.odd.
    """
    echelon = Echelon(p)
    taken = []
    for place, row in enumerate(rows):
        column = echelon.take(row)
        if column == TARGET:
            if echelon.odd is None:
                echelon.odd = place
        elif column is not None:
            taken.append((place, column))
    return (echelon, taken)


def kernel_modulo(echelon, count):
    """The list of the vectors at which rows are 0, with so many columns, as residues; each begins with a 1."""
    found = []
    for column in range(count):
        if column not in echelon.rows:
            vector = {column: 1}
            for other, row in echelon.rows.items():
                if column in row:
                    vector[other] = echelon.p - row[column]
            found.append(vector)
    return found


def kernel(rows, count):
    """The vectors, dicts of fractions, at which all rows are 0.

    Each one has the coefficient 1 at its first column, which no other one has; they ascend by these.
    """
    primes = Primes(BITS)
    found = None
    while found is None:
        echelon, taken = eliminated(rows, primes.another())
        found = []
        for vector in kernel_modulo(echelon, count):
            first = min(vector)
            exact = fractions_of(vector, echelon.p)
            if exact is None or not is_kernel_vector(rows, exact):
                exact = lifted_vector(rows, taken, first, echelon.p)
            # A prime may divide what comes first.
            found.append(exact if exact is not None and min(exact) == first else None)
        # There are at most as many as modulo a prime, so what is right is all.
        if None in found:
            found = None
    return found


def lifted_vector(rows, taken, column, p):
    """The vector with a 1 at a free column at which all rows are 0; None if the prime tells too few of the rows."""
    few = [rows[place] for place, _ in taken]
    found = lifted(few, [other for _, other in taken], [-row.get(column, 0) for row in few], p)
    found[column] = (1, 1)
    found = {other: f for other, f in found.items() if f != ZERO}
    return found if is_kernel_vector(rows, found) else None


def solved_modulo(rows, p):
    """The dict of a solution, as residues, of rows with a target each; None if there is none."""
    echelon, _ = eliminated(rows, p)
    return None if echelon.odd is not None else targets_of(echelon)


def targets_of(echelon):
    """The dict from columns to the residues that rows tell for them, all others being 0."""
    return {column: row[TARGET] for column, row in echelon.rows.items() if TARGET in row}


def is_solution(rows, vector):
    """Whether a dict of fractions solves rows with a target each."""
    whole = {column: f for column, f in vector.items()}
    whole[TARGET] = (-1, 1)
    return is_kernel_vector(rows, whole)


def solution(rows):
    """A dict of fractions that solves rows, each of which tells its target in the column TARGET; None if none does.

    Columns that it lacks are 0.
    """
    for row in rows:
        if row.get(TARGET) and len(row) == 1:
            return None
    primes = Primes(BITS)
    while True:
        echelon, taken = eliminated(rows, primes.another())
        if echelon.odd is not None:
            if is_refuted(rows, echelon, taken):
                return None
            continue
        vector = fractions_of(targets_of(echelon), echelon.p)
        if vector is None or not is_solution(rows, vector):
            few = [rows[place] for place, _ in taken]
            vector = lifted(few, [column for _, column in taken], [row.get(TARGET, 0) for row in few], echelon.p)
        if is_solution(rows, vector):
            return {column: f for column, f in vector.items() if f != ZERO}


def is_refuted(rows, echelon, taken):
    """Whether rows, of which one is odd modulo a prime, surely have no solution."""
    columns = {column: True for row in rows for column in row if column != TARGET}
    if len(taken) == len(columns):
        # The targets are independent of as many columns as there are.
        return True
    odd = rows[echelon.odd]
    few = [(place, column) for place, column in taken if place < echelon.odd]
    columns_as_rows = []
    for _, column in few:
        row = {k: rows[place][column] for k, (place, _) in enumerate(few) if column in rows[place]}
        row[TARGET] = odd.get(column, 0)
        columns_as_rows.append(row)
    vector = solved_modulo(columns_as_rows, echelon.p)
    exact = None if vector is None else fractions_of(vector, echelon.p)
    if exact is None or not is_sum(rows, few, exact, odd):
        targets = [row.pop(TARGET) for row in columns_as_rows]
        exact = lifted(columns_as_rows, list(range(len(few))), targets, echelon.p)
    return is_sum(rows, few, exact, odd)


def is_sum(rows, few, vector, odd):
    """Whether an odd row is the sum of multiples of a few rows but for its target."""
    whole = {k: f for k, f in vector.items()}
    whole[TARGET] = (1, 1)
    whole = integer_row(whole)
    scale = whole.pop(TARGET)
    total = {}
    for k, n in whole.items():
        for column, m in rows[few[k][0]].items():
            total[column] = total.get(column, 0) + n * m
    for column, m in odd.items():
        total[column] = total.get(column, 0) - scale * m
    return [column for column, n in total.items() if n] == [TARGET]
