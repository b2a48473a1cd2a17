"""Polynomials of one letter modulo a prime, as lists of their coefficients from the lowest on."""

from ratesay.linear import inverse_modulo


def trimmed(row):
    """The list without the zeros at its end."""
    size = len(row)
    while size and row[size - 1] == 0:
        size -= 1
    return row[:size]


def times_point(row, point, p):
    """A polynomial times (t - point)."""
    found = [0, *row]
    for k, n in enumerate(row):
        found[k] = (found[k] - point * n) % p
    return found


def product_of_points(points, p):
    """The product of all (t - point)."""
    found = [1]
    for point in points:
        found = times_point(found, point, p)
    return found


class Places:
    """Points, unlike modulo a prime, at which polynomials are told by their values."""

    def __init__(self, points, p):
        self.points = points
        self.p = p
        self.turns = {}

    def turn(self, i, k):
        """1 / the difference of two points."""
        step = self.points[i] - self.points[k]
        if step not in self.turns:
            self.turns[step] = inverse_modulo(step, self.p)
        return self.turns[step]

    def polynomial(self, numbers):
        """The polynomial with some values at the points."""
        p = self.p
        table = list(numbers)
        count = len(table)
        for k in range(1, count):
            for i in range(count - 1, k - 1, -1):
                table[i] = (table[i] - table[i - 1]) * self.turn(i, i - k) % p
        found = []
        for k in range(count - 1, -1, -1):
            # Horner's rule: times (t - point), plus the k-th difference.
            found = times_point(found, self.points[k], p) if found else [0]
            found[0] = (found[0] + table[k]) % p
        return found


def divided(a, b, p):
    """The pair (quotient, remainder) of two polynomials."""
    rest = list(a)
    found = [0 for _ in range(max(0, len(a) - len(b) + 1))]
    turn = inverse_modulo(b[-1], p)
    while len(rest) >= len(b):
        factor = rest[-1] * turn % p
        start = len(rest) - len(b)
        found[start] = factor
        for k, c in enumerate(b):
            rest[start + k] = (rest[start + k] - factor * c) % p
        rest = trimmed(rest)
    return (found, rest)


def less_product(u, q, v, p):
    """u - q v."""
    found = [0 for _ in range(max(len(u), len(q) + len(v)))]
    for k, c in enumerate(u):
        found[k] = c
    for k, c in enumerate(q):
        if c:
            for i, d in enumerate(v):
                found[k + i] = (found[k + i] - c * d) % p
    return trimmed(found)


def fraction_with(points, values, p):
    """The pair (n, d) of polynomials whose quotient has some values at some points; None if it is not seen."""
    count = len(values)
    a, b = product_of_points(points, p), trimmed(Places(points, p).polynomial(values))
    u, v = [], [1]
    # Euclid's algorithm, until both degrees together are least.
    found = (b, v)
    best = len(b) - 1
    while b:
        total = len(b) - 1 + len(v) - 1
        if total < best or total == best and not u:
            best, found = total, (b, v)
        q, r = divided(a, b, p)
        a, b = b, r
        u, v = v, less_product(u, q, v, p)
    return found if best < count - 4 else None


def power_modulo(n, e, p):
    """n to the power e modulo a prime."""
    found = 1
    square = n
    left = e
    while left:
        if left & 1:
            found = found * square % p
        square = square * square % p
        left = left >> 1
    return found


def root_of(row, p, place):
    """A root of a polynomial of the degree 1 or 2, modulo a prime of the form 4 k + 3; None if there is none.

    Of two roots the place, even or odd, tells which one.
    """
    row = trimmed(row)
    if len(row) == 2:
        return -row[0] * inverse_modulo(row[1], p) % p
    if len(row) != 3:
        return None
    c, b, a = row
    square = (b * b - 4 * a * c) % p
    root = power_modulo(square, (p + 1) // 4, p)
    if root * root % p != square:
        return None
    return ((-root if place & 1 else root) - b) * inverse_modulo(2 * a, p) % p
