"""Relations between letters at the general run of a model, found where one of them has a fixed value.

There a relation has fewer monomials. What hangs on the fixed letter is told by many fixed values.
"""

from ratesay.errors import TooMany
from ratesay.linear import common_fractions, turned
from ratesay.polynomials import coefficients, degree, less, letters_of, scaled
from ratesay.primes import divides_none, great_primes
from ratesay.relations import polynomial_of, relation_modulo
from ratesay.rows import Places, fraction_with, root_of
from ratesay.samples import Sample, fixed_value, integers_of

# The points are others than those of other searches.
FIRST_SEED = 5000
FAR = 100000
# So many points in a row may lack the fixed value.
MOST_FAILED = 60
# So many fixed values are tried at first, then more.
FIRST_COUNT = 12
MOST_COUNT = 200
# Of a prime modulo which the integers of great relations are likely to be seen.
BITS = 256
MOST_PRIMES = 5


def value_of(q, table, p):
    """The value of a polynomial, modulo a prime, a dict telling those of its letters."""
    total = 0
    for monomial, (n, d) in q:
        n = n if d == 1 else n * turned(d, p)
        for v, e in monomial:
            for _ in range(e):
                n = n * table[v] % p
        total += n
    return total % p


class Fiber:
    """Points at which a letter has a fixed value.

    It is a letter of a parameter or of an input, or one of the order 0 of an output that has a low degree in something.
    """

    def __init__(self, model, p, fixed, place):
        self.model = model
        self.p = p
        self.samples = []
        self.seed = FIRST_SEED + FAR * place
        self.value = Sample(model, self.seed, p, {}).worth(fixed)
        self.fixed = fixed
        self.q = ()
        outputs = {y: pair for y, pair in model[3]}
        if fixed[0] in outputs:
            n, d = outputs[fixed[0]]
            self.q = less(n, scaled(d, (self.value, 1)))
            self.solved = letter_to_solve(model, self.q)
            self.parts = coefficients(self.q, self.solved)

    def worth(self, k, v):
        """The value of a letter at the k-th point."""
        while len(self.samples) <= k:
            self.samples.append(self.next_sample())
        return self.samples[k].worth(v)

    def next_sample(self):
        """The next point."""
        for _ in range(MOST_FAILED):
            self.seed += 1
            given = self.given()
            if given is not None:
                return Sample(self.model, self.seed, self.p, given)
        raise TooMany()

    def given(self):
        """The dict of values that give the fixed letter its value; None if there is none."""
        if not self.q:
            worth = self.value
            for k in range(2, self.fixed[1] + 1):
                worth = worth * turned(k, self.p) % self.p
            return {self.fixed: worth}
        table = {}
        for place, v in enumerate(letters_of(self.q)):
            table[v] = fixed_value(self.seed, place, 1, self.p)
        worth = root_of([value_of(c, table, self.p) for c in self.parts], self.p, self.seed)
        if worth is None:
            return None
        table[self.solved] = worth
        return table


def letter_to_solve(model, q):
    """A letter of a state or a parameter in which q has the degree 1 or 2; TooMany if there is none."""
    states, parameters, _, _, _ = model
    found = []
    for name in [*[x for x, _ in states], *parameters]:
        top = degree(q, (name, 0))
        if 0 < top < 3:
            found.append((top, (name, 0)))
    if not found:
        raise TooMany()
    return min(found)[1]


def is_fixable(model, v):
    """Whether there are points at which a letter has a fixed value."""
    name, k = v
    if name in model[1] or name in model[2]:
        return True
    outputs = {y: pair for y, pair in model[3]}
    if name not in outputs or k:
        return False
    n, d = outputs[name]
    for x in [*[x for x, _ in model[0]], *model[1]]:
        if 0 < max(degree(n, (x, 0)), degree(d, (x, 0))) < 3:
            return True
    return False


class FixedValues:
    """The relation of some monomials in further letters at many fixed values of one letter."""

    def __init__(self, model, p, fixed, letters, monomials):
        self.model = model
        self.p = p
        self.fixed = fixed
        self.letters = letters
        self.monomials = monomials
        self.points = []
        self.table = {monomial: [] for monomial in monomials}
        self.place = 0

    def grow(self, count):
        """Goes on until there are so many fixed values."""
        failed = 0
        while len(self.points) < count:
            self.place += 1
            fiber = Fiber(self.model, self.p, self.fixed, self.place)
            found = None
            if fiber.value not in self.points:
                found = relation_modulo(fiber, self.letters, self.monomials)
            if found is None:
                failed += 1
                if failed > 4:
                    raise TooMany()
                continue
            self.points.append(fiber.value)
            for monomial in self.monomials:
                self.table[monomial].append(found.get(monomial, 0))

    def bottom(self):
        """The polynomial in the fixed letter by which all coefficients are divided."""
        count = FIRST_COUNT
        while count < MOST_COUNT:
            self.grow(count)
            mixed = [0 for _ in range(count)]
            for place, monomial in enumerate(self.monomials):
                factor = fixed_value(place, 0, 0, self.p)
                mixed = [(n + factor * m) % self.p for n, m in zip(mixed, self.table[monomial])]
            found = fraction_with(self.points, mixed, self.p)
            if found is not None:
                return found[1]
            count += count // 2
        raise TooMany()

    def relation(self, place):
        """The dict from exponents, those of the fixed letter at a place, to residues."""
        bottom = self.bottom()
        scales = [row_value(bottom, point, self.p) for point in self.points]
        found = {}
        places = Places(self.points, self.p)
        for monomial in self.monomials:
            values = [n * scale % self.p for n, scale in zip(self.table[monomial], scales)]
            for e, n in enumerate(places.polynomial(values)):
                if n:
                    found[(*monomial[:place], e, *monomial[place:])] = n
        return found


def row_value(row, point, p):
    """The value of a list of coefficients at a point."""
    total = 0
    for n in reversed(row):
        total = (total * point + n) % p
    return total


def relation_by_fibers(model, letters, place, first):
    """The polynomial of a relation between letters; None if its integers have too many digits.

    first is the relation of the other letters at one fixed value of the letter at a place.
    """
    rest = [*letters[:place], *letters[place + 1:]]
    numbers = integers_of(model)
    for p in [p for p in great_primes(BITS) if divides_none(p, numbers)][:MOST_PRIMES]:
        found = FixedValues(model, p, letters[place], rest, list(first)).relation(place)
        turn = turned(list(found.values())[0], p)
        exact = common_fractions({key: n * turn % p for key, n in found.items()}, p)
        if exact is not None:
            return polynomial_of(letters, exact)
    return None
