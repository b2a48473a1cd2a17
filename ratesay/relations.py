"""The least relations between letters at the general run of a model, found by the values at many points.

Monomials are tuples of exponents here; the last letter is the one for which a relation is looked for.
"""

from ratesay.linear import fraction_of, inverse_modulo
from ratesay.polynomials import primitive
from ratesay.samples import EXPONENT, Sample

# The points of relations are others than those of oracles.
FIRST_SEED = 1000
# Integers of relations with more digits than these primes tell are not looked for.
FINE = (127, 521, 1279, 2203, 4423)
# Searches end when they have seen so many monomials.
MOST_SEEN = 20000


class Points:
    """The values of letters at many points, modulo one prime."""

    def __init__(self, model, exponent):
        self.model = model
        self.exponent = exponent
        self.p = (1 << exponent) - 1
        self.samples = []

    def worth(self, k, v):
        """The value of a letter at the k-th point."""
        while len(self.samples) <= k:
            self.samples.append(Sample(self.model, FIRST_SEED + len(self.samples), self.exponent, {}))
        return self.samples[k].worth(v)


class Monomials:
    """The values of monomials in some letters at many points."""

    def __init__(self, points, letters):
        self.points = points
        self.p = points.p
        self.letters = letters
        self.tables = []

    def worth(self, k, monomial):
        """The value of a monomial at the k-th point."""
        while len(self.tables) <= k:
            self.tables.append({})
        table = self.tables[k]
        if monomial not in table:
            found = 1
            for v, e in zip(self.letters, monomial):
                if e:
                    found = found * self.power(k, v, e) % self.p
            table[monomial] = found
        return table[monomial]

    def power(self, k, v, e):
        """The value of a letter to a power at the k-th point."""
        table = self.tables[k]
        if (v, e) not in table:
            low = self.points.worth(k, v)
            table[(v, e)] = low if e == 1 else self.power(k, v, e - 1) * low % self.p
        return table[(v, e)]


class Elimination:
    """Things without a relation between their values, as far as they were added; one point after the other is used."""

    def __init__(self, source):
        self.source = source
        self.p = source.p
        self.things = []
        self.factors = []
        self.turns = []
        self.columns = []

    def column(self, k):
        """The values of the basis at the k-th point, k being at most the number of its members."""
        while len(self.columns) <= k:
            at = len(self.columns)
            found = []
            for thing, row, turn in zip(self.things[:at], self.factors, self.turns):
                low = sum([f * n for f, n in zip(row, found)])
                found.append((self.source.worth(at, thing) - low) * turn % self.p)
            self.columns.append(found)
        return self.columns[k]

    def parts(self, thing):
        """The pair of the multiples of the basis that make up a thing, and what is left of it at the next point."""
        found = []
        for k in range(len(self.things)):
            low = sum([f * n for f, n in zip(found, self.column(k))])
            found.append((self.source.worth(k, thing) - low) % self.p)
        k = len(self.things)
        low = sum([f * n for f, n in zip(found, self.column(k))])
        return (found, (self.source.worth(k, thing) - low) % self.p)

    def take(self, thing):
        """Adds a thing; None, or the dict of its relation with those before it."""
        row, left = self.parts(thing)
        if left == 0:
            return self.relation(thing, row)
        self.things.append(thing)
        self.factors.append(row)
        self.turns.append(inverse_modulo(left, self.p))
        return None

    def relation(self, thing, row):
        """The dict from things to residues of the relation that a row of multiples of the basis tells."""
        left = list(row)
        found = {thing: 1}
        for k in range(len(left) - 1, -1, -1):
            if left[k]:
                n = left[k] * self.turns[k] % self.p
                found[self.things[k]] = self.p - n
                for i, f in enumerate(self.factors[k]):
                    left[i] = (left[i] - n * f) % self.p
        return found


def is_multiple(monomial, low):
    """Whether a monomial is a multiple of another one."""
    for e, f in zip(monomial, low):
        if e < f:
            return False
    return True


def is_any_multiple(monomial, leads):
    """Whether a monomial is a multiple of one of some others."""
    for low in leads:
        if is_multiple(monomial, low):
            return True
    return False


class Search:
    """Relations of a letter, the last one of some letters, by their weight.

    grades tells tuples of weights for the letters; each relation has one weight of each kind alone.
    """

    def __init__(self, points, letters, weights, grades, top):
        self.letters = letters
        self.weights = [weights[v] for v in letters]
        self.grades = [grades[v] for v in letters]
        self.tops = [*[None for _ in letters[1:]], top]
        self.source = Monomials(points, letters)
        self.eliminations = {}
        self.leads = []
        # By weight: the monomials without a relation times a letter; no others can be without one.
        self.waiting = {}
        self.row = [tuple([0 for _ in letters])]
        self.seen = 0

    def grade(self, monomial):
        """The tuple of the weights of a monomial."""
        found = [0 for _ in self.grades[0]]
        for e, row in zip(monomial, self.grades):
            if e:
                found = [n + e * m for n, m in zip(found, row)]
        return tuple(found)

    def offer(self, monomial):
        """Lets the products of a monomial with each letter wait for their weight."""
        for k, top in enumerate(self.tops):
            if top is None or monomial[k] < top:
                other = (*monomial[:k], monomial[k] + 1, *monomial[k + 1:])
                weight = sum([e * n for e, n in zip(other, self.weights)])
                self.waiting.setdefault(weight, {})[other] = True

    def next_monomial(self):
        """The next monomial that may begin a relation, None if there is none."""
        while not self.row:
            if not self.waiting:
                return None
            weight = min(list(self.waiting))
            self.row = sorted(self.waiting.pop(weight))
        return self.row.pop()

    def next(self, most):
        """The dict of the next relation in which the letter stands; None if it would have too many monomials."""
        toil = 0
        while self.seen < MOST_SEEN and toil < most * most * most:
            monomial = self.next_monomial()
            if monomial is None:
                return None
            if is_any_multiple(monomial, self.leads):
                continue
            self.seen += 1
            grade = self.grade(monomial)
            if grade not in self.eliminations:
                self.eliminations[grade] = Elimination(self.source)
            size = len(self.eliminations[grade].things)
            toil += 3 * size * size + 300
            found = self.eliminations[grade].take(monomial)
            if found is None:
                self.offer(monomial)
                continue
            self.leads.append(monomial)
            if max([other[-1] for other in found]):
                return found
        return None


def polynomial_of(letters, table):
    """The polynomial of a dict from monomials to fractions, primitive."""
    rows = []
    for exponents, f in table.items():
        monomial = [(v, e) for v, e in zip(letters, exponents) if e]
        rows.append((tuple(sorted(monomial)), f))
    return primitive(tuple(sorted(rows)))[1]


def written(model, letters, relation):
    """The polynomial of a relation modulo the first prime; None if its integers have too many digits."""
    p = prime_number(EXPONENT)
    monomials = list(relation)
    for exponent in FINE:
        if exponent != EXPONENT:
            p = prime_number(exponent)
            relation = relation_modulo(Points(model, exponent), letters, monomials)
            if relation is None:
                return None
        found = {monomial: fraction_of(n, p) for monomial, n in relation.items()}
        if None not in list(found.values()):
            q = polynomial_of(letters, found)
            if Sample(model, 0, FINE[1], {}).value(q) == 0:
                return q
    return None


def prime_number(exponent):
    """A Mersenne prime."""
    return (1 << exponent) - 1


def relation_modulo(points, letters, monomials):
    """The dict of the relation of the first one of some monomials with the others, which have none; or None."""
    elimination = Elimination(Monomials(points, letters))
    for monomial in monomials[1:]:
        if elimination.take(monomial) is not None:
            return None
    return elimination.take(monomials[0])
