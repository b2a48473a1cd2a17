"""Relations between letters at the general run of a model, found where some of them have fixed values.

There a relation has fewer monomials. What hangs on the fixed letters is told by many fixed values.
"""

from ratesay.errors import TooMany
from ratesay.linear import common_fractions, turned
from ratesay.polynomials import coefficients, degree, less, letters_of, scaled
from ratesay.primes import divides_none, great_primes
from ratesay.relations import polynomial_of, relation_modulo
from ratesay.rows import Places, fraction_with, root_of, trimmed
from ratesay.samples import Sample, Setting, fixed_value, integers_of

# The points are others than those of other searches.
FIRST_SEED = 5000
FAR = 1000
# So many points in a row may lack the fixed value.
MOST_FAILED = 60
# So many fixed values are tried at first, then more.
FIRST_COUNT = 12
MOST_COUNT = 200
# What is told by values is seen by so many more of them.
SPARE = 4
# Of a prime modulo which the integers of great relations are likely to be seen.
BITS = 256
MOST_PRIMES = 5


def value_of(q, table, p):
    """The value of a polynomial, modulo a prime, a dict telling those of its letters."""
    total = 0
    for monomial, (n, d) in q:
        n = n if d == 1 else n * turned(d, p)
        for v, e in monomial:
            for _ in range(e):
                n = n * table[v] % p
        total += n
    return total % p


class Fiber:
    """Points at which letters have fixed values.

    given tells the coefficients of powers of t for letters of parameters and inputs; fixed is a pair (letter, value)
    for a letter of an output, of order 0, that has a low degree in some state, or None.
    """

    def __init__(self, model, setting, given, fixed, seed):
        self.setting = setting
        self.p = setting.p
        self.samples = []
        self.seed = seed
        self.given = given
        self.q = ()
        if fixed is not None:
            n, d = {y: pair for y, pair in model[3]}[fixed[0][0]]
            self.q = less(n, scaled(d, (fixed[1], 1)))
            self.solved = letter_to_solve(model, self.q)
            self.parts = coefficients(self.q, self.solved)

    def worth(self, k, v):
        """The value of a letter at the k-th point."""
        while len(self.samples) <= k:
            self.samples.append(self.next_sample())
        return self.samples[k].worth(v)

    def next_sample(self):
        """The next point."""
        for _ in range(MOST_FAILED):
            self.seed += 1
            table = self.values_given()
            if table is not None:
                return Sample(self.setting, self.seed, table)
        raise TooMany()

    def values_given(self):
        """The dict of the values that are given, with those that give the output its value; None if there are none."""
        found = {v: n for v, n in self.given.items()}
        if not self.q:
            return found
        for place, v in enumerate(letters_of(self.q)):
            if v not in found:
                found[v] = fixed_value(self.seed, place, 1, self.p)
        worth = root_of([value_of(c, found, self.p) for c in self.parts], self.p, self.seed)
        if worth is None:
            return None
        found[self.solved] = worth
        return found


def letter_to_solve(model, q):
    """A letter of a state in which q has the degree 1 or 2; TooMany if there is none."""
    found = [(degree(q, (x, 0)), (x, 0)) for x, _ in model[0]]
    found = [row for row in found if 0 < row[0] < 3]
    if not found:
        raise TooMany()
    return min(found)[1]


def is_given(model, v):
    """Whether a letter is one of a parameter or of an input."""
    return v[0] in model[1] or v[0] in model[2]


def is_fixable(model, v):
    """Whether there are points at which a letter has a fixed value."""
    if is_given(model, v):
        return True
    outputs = {y: pair for y, pair in model[3]}
    if v[0] not in outputs or v[1]:
        return False
    n, d = outputs[v[0]]
    for x, _ in model[0]:
        if 0 < max(degree(n, (x, 0)), degree(d, (x, 0))) < 3:
            return True
    return False


class Nest:
    """The relation of some monomials at fixed values of some letters, told with these letters one after the other."""

    def __init__(self, model, p, fixed, letters, monomials):
        self.model = model
        self.setting = Setting(model, p)
        self.p = p
        self.fixed = fixed
        self.letters = letters
        self.monomials = monomials
        self.seed = FIRST_SEED
        # For each number of fixed letters: the key whose coefficient is made 1, how many values of the next letter
        # tell what hangs on it, and whether these are polynomials.
        self.heads = [None for _ in range(len(fixed) + 1)]
        self.plans = [None for _ in fixed]

    def fiber(self, given, worth):
        """The points with given values, and with a value of the last letter if it is one of an output."""
        self.seed += FAR
        last = self.fixed[-1]
        return Fiber(self.model, self.setting, given, None if is_given(self.model, last) else (last, worth), self.seed)

    def table(self, k, given, worth):
        """The dict from keys to residues, the first k letters being fixed; a told key has the residue 1."""
        if k == len(self.fixed):
            found = relation_modulo(self.fiber(given, worth), self.letters, self.monomials)
            if found is None:
                raise TooMany()
        else:
            found = self.grown(k, given)
        if self.heads[k] is None:
            self.heads[k] = list(found)[0]
        turn = turned(found.get(self.heads[k], 0), self.p)
        return {key: n * turn % self.p for key, n in found.items()}

    def node(self, k, given):
        """The triple (value, given, table) at one more value of the letter at the place k."""
        v = self.fixed[k]
        self.seed += FAR
        more = {w: n for w, n in given.items()}
        if is_given(self.model, v):
            worth = fixed_value(self.seed, 0, 2, self.p)
            more[v] = worth
            for j in range(2, v[1] + 1):
                more[v] = more[v] * turned(j, self.p) % self.p
        else:
            worth = Sample(self.setting, self.seed, given).worth(v)
        return (worth, self.table(k + 1, more, worth))

    def nodes(self, k, given, found, count):
        """Goes on with a dict from values to tables until there are so many."""
        failed = 0
        while len(found) < count:
            try:
                worth, table = self.node(k, given)
                found[worth] = table
            except TooMany:
                # At some values there is no such relation.
                failed += 1
                if failed > 2 + len(found):
                    raise TooMany()

    def grown(self, k, given):
        """The dict from keys, with the exponents of the letter at the place k behind them, to residues."""
        found = {}
        plan = self.plans[k]
        count = FIRST_COUNT if plan is None else plan[0]
        while count < MOST_COUNT:
            self.nodes(k, given, found, count)
            rows = self.rows(found, plan is not None and plan[1])
            if rows is not None:
                self.note_plan(k, rows)
                return {(*key, e): n for key, row in rows.items() for e, n in enumerate(row) if n}
            count += count // 2
        raise TooMany()

    def rows(self, found, is_whole):
        """The dict from keys to polynomials in a letter, told by tables at its values; None if there are too few.

        If they are known to be polynomials, they are not looked for as fractions.
        """
        points = list(found)
        keys = {key: True for table in found.values() for key in table}
        columns = {key: [table.get(key, 0) for table in found.values()] for key in keys}
        scales = [1 for _ in points] if is_whole else self.bottoms(points, list(columns.values()))
        if scales is None:
            return None
        places = Places(points, self.p)
        rows = {}
        for key, column in columns.items():
            rows[key] = trimmed(places.polynomial([n * scale % self.p for n, scale in zip(column, scales)]))
        return rows if max([len(row) for row in rows.values()]) < len(points) else None

    def bottoms(self, points, columns):
        """The values of a common denominator of fractions with some columns of values; None if it is not seen."""
        mixed = [0 for _ in points]
        for place, column in enumerate(columns):
            factor = fixed_value(place, 0, 0, self.p)
            mixed = [(n + factor * m) % self.p for n, m in zip(mixed, column)]
        pair = fraction_with(points, mixed, self.p)
        return None if pair is None else [row_value(pair[1], point, self.p) for point in points]

    def note_plan(self, k, rows):
        """Notes how many values tell the polynomials, and the key with the least degree, once."""
        if self.plans[k] is None:
            top = max([len(row) for row in rows.values()])
            least, key = min([(len(row), key) for key, row in rows.items()])
            self.heads[k + 1] = key
            self.plans[k] = (top + 2, True) if least == 1 else (top + least + SPARE, False)


def row_value(row, point, p):
    """The value of a list of coefficients at a point."""
    total = 0
    for n in reversed(row):
        total = (total * point + n) % p
    return total


def first_fiber(model, p, fixed):
    """Points at which some letters, of which the last one alone may be one of an output, have fixed values."""
    nest = Nest(model, p, fixed, [], [])
    given = {}
    for place, v in enumerate(fixed):
        if is_given(model, v):
            given[v] = fixed_value(FIRST_SEED, place, 3, p)
    worth = Sample(nest.setting, FIRST_SEED, given).worth(fixed[-1])
    return nest.fiber(given, worth)


def relation_by_fibers(model, letters, fixed, monomials):
    """The polynomial of a relation between letters; None if its integers have too many digits.

    monomials are those of the relation of the other letters at fixed values of some letters.
    """
    rest = [v for v in letters if v not in fixed]
    numbers = integers_of(model)
    for p in [p for p in great_primes(BITS) if divides_none(p, numbers)][:MOST_PRIMES]:
        found = Nest(model, p, fixed, rest, monomials).table(0, {}, 0)
        exact = common_fractions(found, p)
        if exact is not None:
            return polynomial_of([*rest, *list(reversed(fixed))], exact)
    return None
