"""The equations of a general case by elimination: the lowest equation is solved first, whole factors go at once."""

from ratesay.branches import widest
from ratesay.errors import TooMany
from ratesay.factors import factors_of
from ratesay.members import Member
from ratesay.polynomials import (
    as_number,
    coefficients,
    common_divisor,
    degree,
    joined,
    less,
    letters_of,
    primitive,
    quotient,
    times,
)
from ratesay.rankings import highest, key_of
from ratesay.samples import Oracle

MOST_PAIRS = 20000
# Common divisors take longer than products.
COMMON = 40
MOST_PARTED = 400
# Factors and common divisors of polynomials with greater values take too long.
MOST_VOLUME = 1000000
GREATEST_VOLUME = 4000000
# Of initials and coefficients of at most so many pairs common divisors are taken.
SMALL = 40


class Descent:
    """What an elimination has so far: solved equations by their leaders, open ones, and factors that are not 0."""

    def __init__(self, model, places, equations, most):
        self.most = most
        self.oracle = Oracle(model)
        self.places = places
        self.waiting = list(equations)
        self.solved = {}
        self.parts = []
        self.members = {}
        self.spent = 0

    def toil(self, amount):
        """Gives up when the elimination takes too long."""
        self.spent += amount
        if self.spent > self.most:
            raise TooMany()

    def member(self, p):
        """p as an equation to divide by."""
        if p not in self.members:
            self.members[p] = Member(p, highest(p, self.places))
        return self.members[p]

    def run(self):
        """Solves all equations."""
        while self.waiting:
            place = min([(self.rank(p), k) for k, p in enumerate(self.waiting)])[1]
            p = self.waiting.pop(place)
            q = self.reduced(p)
            if not q:
                continue
            q = self.chosen(q)
            if self.member(q).leader != self.member(p).leader and self.waiting:
                self.waiting.append(q)
            else:
                self.settle(q)

    def rank(self, p):
        """What an equation is chosen by."""
        member = self.member(p)
        return (key_of(self.places, member.leader), member.degree, len(p))

    def settle(self, q):
        """Solves an equation for its leader; those that it concerns are opened again."""
        w = self.member(q).leader
        for v in list(self.solved):
            a = self.solved[v]
            # An initial may be 0 where the new equation is, so what is not reduced is opened, too.
            if degree(a, w) >= self.member(q).degree or [u for u in letters_of(a) if u[0] == w[0] and u[1] > w[1]]:
                self.waiting.append(a)
                del self.solved[v]
        self.solved[w] = q

    def next_step(self, p):
        """The triple (letter, equation, j): the j-th rate of a solved equation lowers p in the letter; or None."""
        orders = {v[0]: v[1] for v in self.solved}
        found = []
        for v in letters_of(p):
            if v[0] in orders and v[1] > orders[v[0]]:
                found.append((1, key_of(self.places, v), v))
            elif v in self.solved and degree(p, v) >= self.member(self.solved[v]).degree:
                found.append((0, key_of(self.places, v), v))
        if not found:
            return None
        v = max(found)[2]
        order = orders[v[0]]
        return (v, self.solved[(v[0], order)], v[1] - order)

    def reduced(self, p):
        """p reduced by the solved equations, without known factors."""
        while p and as_number(p) is None:
            step = self.next_step(p)
            if step is None:
                return p
            v, a, j = step
            rate = self.member(a).rate_within(j, MOST_PAIRS)
            if rate is None:
                raise TooMany()
            p = self.stripped(self.remainder(p, rate, v))
        return p

    def remainder(self, g, p, v):
        """A remainder of g by p in the letter v, up to factors that are not 0."""
        parts = coefficients(p, v)
        d = len(parts) - 1
        tail = joined(parts[:d], v)
        row = coefficients(g, v)
        while len(row) > d:
            lead, c = parts[d], row[-1]
            if len(lead) <= SMALL and len(c) <= SMALL:
                common = common_divisor(lead, c)
                lead, c = quotient(lead, common), quotient(c, common)
            low = joined(row[:-1], v)
            shift = joined((*[() for _ in range(len(row) - 1 - d)], c), v)
            self.toil(len(lead) * len(low) + len(shift) * len(tail))
            g = less(times(lead, low), times(shift, tail))
            if len(g) > MOST_PAIRS:
                raise TooMany()
            row = coefficients(g, v)
        return g

    def stripped(self, p):
        """p without the known factors that are not 0."""
        if not p:
            return p
        p = primitive(p)[1]
        for part in self.parts:
            q = quotient(p, part)
            while q is not None:
                p = primitive(q)[1]
                q = quotient(p, part)
        return p

    def note(self, p):
        """Notes the factors of a polynomial that is not 0."""
        for part in factors_of(p) if len(p) <= MOST_PARTED else [p]:
            if part not in self.parts:
                self.parts.append(part)

    def chosen(self, p):
        """The factor of p that is 0, as far as factors are easily found."""
        p = self.stripped(p)
        w = highest(p, self.places)
        if w is None:
            raise TooMany()
        content = ()
        for _, c in sorted([(len(c), c) for c in coefficients(p, w) if c]):
            if len(content) * len(c) * COMMON > self.most or content and volume(content) > GREATEST_VOLUME:
                raise TooMany()
            content = common_divisor(content, c)
            if as_number(content) is not None:
                break
        if as_number(content) is None:
            if self.oracle.is_zero(content):
                return self.chosen(content)
            self.note(content)
            p = primitive(quotient(p, content))[1]
        if len(p) > MOST_PARTED or volume(p) > MOST_VOLUME:
            return p
        parts = factors_of(p)
        if parts == [p]:
            return p
        zero = [(len(q), q) for q in parts if self.oracle.is_zero(q)]
        if not zero:
            raise TooMany()
        for q in parts:
            if (len(q), q) not in zero:
                self.note(q)
        return min(zero)[1]


def volume(p):
    """About how many bits a value of p has that tells p."""
    found = widest(p)
    for v in letters_of(p):
        found *= degree(p, v) + 1
    return found


def descended(model, places, equations, most):
    """The list of the equations of a general case, ascending by their leaders; None if that takes more than most."""
    descent = Descent(model, places, equations, most)
    try:
        descent.run()
    except TooMany:
        return None
    ordered = sorted([(key_of(places, v), v) for v in descent.solved])
    return [descent.solved[v] for _, v in ordered]
