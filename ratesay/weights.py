"""The degrees of letters at the general run of a model, along a line: what relations between them are ordered by."""

from ratesay.linear import inverse_modulo
from ratesay.samples import BITS, Sample, fixed_value, prime_for

# A fraction with degrees whose sum is about so many is found by values at so many points.
COUNTS = (14, 40, 90)
HEAVY = 90


class Line:
    """Samples of a model along a line in the letters of states, parameters and inputs."""

    def __init__(self, model, orders):
        states, parameters, inputs, _, _ = model
        self.model = model
        self.p = prime_for(model, BITS)
        self.own = [(x, 0) for x, _ in states] + [(name, 0) for name in parameters]
        self.own.extend([(name, k) for name in inputs for k in range(orders + 1)])
        self.samples = []

    def sample(self, k):
        """The sample at the place k of the line."""
        while len(self.samples) <= k:
            t = len(self.samples) + 1
            given = {}
            for place, v in enumerate(self.own):
                low, high = fixed_value(1, place, 0, self.p), fixed_value(2, place, 0, self.p)
                given[v] = (low + t * high) % self.p
            self.samples.append(Sample(self.model, 0, self.p, given))
        return self.samples[k]

    def degree(self, v):
        """The degree of a letter along the line; a great number if it is great."""
        for count in COUNTS:
            values = [self.sample(k).worth(v) for k in range(count)]
            found = fraction_degree(values, self.p)
            if found is not None:
                return found
        return HEAVY


def interpolated(values, p):
    """The coefficients, from the lowest on, of the polynomial with some values at 1, 2, 3, .."""
    table = list(values)
    count = len(table)
    for k in range(1, count):
        turn = inverse_modulo(k, p)
        for i in range(count - 1, k - 1, -1):
            table[i] = (table[i] - table[i - 1]) * turn % p
    found = []
    for k in range(count - 1, -1, -1):
        # Horner's rule: times (t - (k + 1)), plus the k-th difference.
        shifted = [0, *found]
        for i, n in enumerate(found):
            shifted[i] = (shifted[i] - (k + 1) * n) % p
        shifted[0] = (shifted[0] + table[k]) % p
        found = shifted
    return found


def trimmed(row):
    """The list without the zeros at its end."""
    size = len(row)
    while size and row[size - 1] == 0:
        size -= 1
    return row[:size]


def product_of_points(count, p):
    """The coefficients of (t - 1) (t - 2) .. with so many factors."""
    found = [1]
    for k in range(1, count + 1):
        shifted = [0, *found]
        for i, n in enumerate(found):
            shifted[i] = (shifted[i] - k * n) % p
        found = shifted
    return found


def fraction_degree(values, p):
    """The greater degree of the fraction of polynomials with some values at 1, 2, 3, ..; None if it is not seen."""
    count = len(values)
    a, b = product_of_points(count, p), trimmed(interpolated(values, p))
    u, v = [], [1]
    # Euclid's algorithm, until both degrees together are least.
    best = len(b) - 1
    degree = best
    while b:
        total = len(b) - 1 + len(v) - 1
        if total < best or total == best and not u:
            best, degree = total, max(len(b), len(v)) - 1
        q, r = divided(a, b, p)
        a, b = b, r
        u, v = v, trimmed(less_product(u, q, v, p))
    return degree if best < count - 4 else None


def divided(a, b, p):
    """The pair (quotient, remainder) of two lists of coefficients."""
    rest = list(a)
    found = [0 for _ in range(max(0, len(a) - len(b) + 1))]
    turn = inverse_modulo(b[-1], p)
    while len(rest) >= len(b):
        factor = rest[-1] * turn % p
        start = len(rest) - len(b)
        found[start] = factor
        for k, c in enumerate(b):
            rest[start + k] = (rest[start + k] - factor * c) % p
        rest = trimmed(rest)
    return (found, rest)


def less_product(u, q, v, p):
    """u - q v for lists of coefficients."""
    found = [0 for _ in range(max(len(u), len(q) + len(v)))]
    for k, c in enumerate(u):
        found[k] = c
    for k, c in enumerate(q):
        if c:
            for i, d in enumerate(v):
                found[k + i] = (found[k + i] - c * d) % p
    return found
