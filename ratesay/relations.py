"""The least relations between letters at the general run of a model, found by the values at many points.

Monomials are tuples of exponents here; the last letter is the one for which a relation is looked for.
"""

from ratesay.linear import fraction_of, inverse_modulo
from ratesay.polynomials import primitive
from ratesay.primes import divides_none, great_primes
from ratesay.samples import Sample, Setting, integers_of, prime_for

# The points of relations are others than those of oracles.
FIRST_SEED = 1000
# The bits of the prime modulo which relations are looked for.
COARSE = 61
# Integers of relations with more digits than primes of so many bits tell are not looked for.
FINE = (61, 127, 256, 521, 1279, 2203, 4423)
CHECKED = 521
# What sums of so many products of residues ask for more, in bits.
SPARE = 14
FIRST_ROOM = 6
# So many points more than monomials show a relation.
FURTHER = 3
# Searches end when they have seen so many monomials.
MOST_SEEN = 20000


class Points:
    """The values of letters at many points, modulo one prime."""

    def __init__(self, model, p):
        self.setting = Setting(model, p)
        self.p = p
        self.samples = []

    def worth(self, k, v):
        """The value of a letter at the k-th point."""
        while len(self.samples) <= k:
            self.samples.append(Sample(self.setting, FIRST_SEED + len(self.samples), {}))
        return self.samples[k].worth(v)


class PointSets:
    """The points of one model modulo several primes."""

    def __init__(self, model):
        self.model = model
        self.found = {}
        self.check = Sample(Setting(model, prime_for(model, CHECKED)), 0, {})

    def points(self, p):
        """The points modulo a prime."""
        if p not in self.found:
            self.found[p] = Points(self.model, p)
        return self.found[p]

    def checked(self, q):
        """Whether a polynomial is 0 at one more point."""
        return self.check.value(q) == 0


class Monomials:
    """The values of monomials in some letters at many points."""

    def __init__(self, points, letters):
        self.points = points
        self.p = points.p
        self.letters = letters
        self.rows = {}
        self.columns = [[] for _ in letters]

    def worths(self, monomial, count):
        """The list of the values of a monomial at the first so many points, or more."""
        row = self.rows.setdefault(monomial, [])
        size = len(row)
        if size < count:
            place = max([k for k, e in enumerate(monomial) if e], default=None)
            if place is None:
                row.extend([1 for _ in range(count - size)])
            else:
                lower = self.worths((*monomial[:place], monomial[place] - 1, *monomial[place + 1:]), count)
                letters = self.letter_values(place, count)
                row.extend([n * m % self.p for n, m in zip(lower[size:count], letters[size:count])])
        return row

    def letter_values(self, place, count):
        """The list of the values of a letter at the first so many points, or more."""
        row = self.columns[place]
        while len(row) < count:
            row.append(self.points.worth(len(row), self.letters[place]))
        return row


class Elimination:
    """Things without a relation between their values, as far as they were added; one point after the other is used.

    The values at many points stand in one great integer, a field of bits for each point, so that a multiple of
    all of them is added at once.
    """

    def __init__(self, source, room):
        self.source = source
        self.p = source.p
        self.digits = (2 * self.p.bit_length() + SPARE) // 4 + 1
        self.bits = 4 * self.digits
        self.room = 0
        self.first_room = room
        self.things = []
        self.factors = []
        self.turns = []
        # The k-th row has the values of the k-th member of the basis from the k-th point on; there it is 1.
        self.rows = []

    def packed(self, numbers):
        """The integer in which numbers stand, the first one lowest."""
        return int("".join([f"{n:x}".zfill(self.digits) for n in reversed(numbers)]), 16)

    def unpacked(self, total, count):
        """The list of the residues of so many numbers that stand in an integer."""
        text = f"{total:x}".zfill(count * self.digits)
        ends = [len(text) - k * self.digits for k in range(count)]
        return [int(text[end - self.digits:end], 16) % self.p for end in ends]

    def grow(self):
        """Makes room for further points."""
        old = self.room
        self.room = old + old // 2 + self.first_room
        parts = []
        for thing, row, turn in zip(self.things, self.factors, self.turns):
            left = self.packed(self.source.worths(thing, self.room)[old:self.room])
            for n, part in zip(row, parts):
                left += (self.p - n) * part
            parts.append(self.packed([n * turn % self.p for n in self.unpacked(left, self.room - old)]))
        for k, part in enumerate(parts):
            self.rows[k] += part << (self.bits * (old - k))

    def take(self, thing):
        """Adds a thing; None, or the dict of its relation with those before it."""
        if len(self.things) == self.room:
            self.grow()
        left = self.packed(self.source.worths(thing, self.room)[:self.room])
        mask = (1 << self.bits) - 1
        found = []
        for row in self.rows:
            n = (left & mask) % self.p
            found.append(n)
            left = (left + (self.p - n) * row) >> self.bits
        numbers = self.unpacked(left, self.room - len(self.things))
        if numbers[0] == 0:
            return self.relation(thing, found)
        turn = inverse_modulo(numbers[0], self.p)
        self.things.append(thing)
        self.factors.append(found)
        self.turns.append(turn)
        self.rows.append(self.packed([n * turn % self.p for n in numbers]))
        return None

    def relation(self, thing, row):
        """The dict from things to residues of the relation that a row of multiples of the basis tells."""
        left = list(row)
        found = {thing: 1}
        for k in range(len(left) - 1, -1, -1):
            if left[k]:
                n = left[k] * self.turns[k] % self.p
                found[self.things[k]] = self.p - n
                for i, f in enumerate(self.factors[k]):
                    left[i] = (left[i] - n * f) % self.p
        return found


def is_multiple(monomial, low):
    """Whether a monomial is a multiple of another one."""
    for e, f in zip(monomial, low):
        if e < f:
            return False
    return True


def is_any_multiple(monomial, leads):
    """Whether a monomial is a multiple of one of some others."""
    for low in leads:
        if is_multiple(monomial, low):
            return True
    return False


class Search:
    """Relations of a letter, the last one of some letters, by their weight.

    grades tells tuples of weights for the letters; each relation has one weight of each kind alone.
    """

    def __init__(self, points, letters, weights, grades, top):
        self.letters = letters
        self.weights = [weights[v] for v in letters]
        self.grades = [grades[v] for v in letters]
        self.tops = [*[None for _ in letters[1:]], top]
        self.source = Monomials(points, letters)
        self.eliminations = {}
        self.leads = []
        # By weight: the monomials without a relation times a letter; no others can be without one.
        self.waiting = {}
        self.row = [tuple([0 for _ in letters])]
        self.seen = 0

    def grade(self, monomial):
        """The tuple of the weights of a monomial."""
        found = [0 for _ in self.grades[0]]
        for e, row in zip(monomial, self.grades):
            if e:
                found = [n + e * m for n, m in zip(found, row)]
        return tuple(found)

    def offer(self, monomial):
        """Lets the products of a monomial with each letter wait for their weight."""
        for k, top in enumerate(self.tops):
            if top is None or monomial[k] < top:
                other = (*monomial[:k], monomial[k] + 1, *monomial[k + 1:])
                weight = sum([e * n for e, n in zip(other, self.weights)])
                self.waiting.setdefault(weight, {})[other] = True

    def next_monomial(self):
        """The next monomial that may begin a relation, None if there is none."""
        while not self.row:
            if not self.waiting:
                return None
            weight = min(list(self.waiting))
            self.row = sorted(self.waiting.pop(weight))
        return self.row.pop()

    def next(self, most):
        """The dict of the next relation in which the letter stands; None if it would have too many monomials."""
        toil = 0
        while self.seen < MOST_SEEN and 3 * toil < most * most * most:
            monomial = self.next_monomial()
            if monomial is None:
                return None
            if is_any_multiple(monomial, self.leads):
                continue
            self.seen += 1
            grade = self.grade(monomial)
            if grade not in self.eliminations:
                self.eliminations[grade] = Elimination(self.source, FIRST_ROOM)
            size = len(self.eliminations[grade].things)
            toil += size * size + 20 * size + 600
            found = self.eliminations[grade].take(monomial)
            if found is None:
                self.offer(monomial)
                continue
            self.leads.append(monomial)
            if max([other[-1] for other in found]):
                return found
        return None


def polynomial_of(letters, table):
    """The polynomial of a dict from monomials to fractions, primitive."""
    rows = []
    for exponents, f in table.items():
        monomial = [(v, e) for v, e in zip(letters, exponents) if e]
        rows.append((tuple(sorted(monomial)), f))
    return primitive(tuple(sorted(rows)))[1]


def written(sets, letters, relation, p):
    """The polynomial of a relation modulo a prime; None if its integers have too many digits."""
    monomials = list(relation)
    for q in fine_primes(sets.model, p):
        if q != p:
            relation = relation_modulo(sets.points(q), letters, monomials)
            if relation is None:
                return None
        found = {monomial: fraction_of(n, q) for monomial, n in relation.items()}
        if None not in list(found.values()):
            f = polynomial_of(letters, found)
            if sets.checked(f):
                return f
    return None


def fine_primes(model, p):
    """The list of the primes by which integers of relations are told: p first, then greater ones."""
    numbers = integers_of(model)
    found = [p]
    for least in FINE[1:]:
        good = [q for q in great_primes(max(least, p.bit_length() + 1)) if q not in found and divides_none(q, numbers)]
        if good:
            found.append(good[0])
    return found


def relation_modulo(points, letters, monomials):
    """The dict of the relation of the first one of some monomials with the others, which have none; or None."""
    elimination = Elimination(Monomials(points, letters), len(monomials) + FURTHER)
    for monomial in monomials[1:]:
        if elimination.take(monomial) is not None:
            return None
    return elimination.take(monomials[0])
