"""Whether a simple case with a home for the system of a model is one of its general run.

What is 0 at all runs is 0 at all solutions of such a case, as these are runs. So the case is that of the general run
if it has as many free letters: then nothing else is 0 at its solutions.
"""

from ratesay.errors import TooMany
from ratesay.linear import Echelon, turned
from ratesay.members import members_of
from ratesay.models import names_in
from ratesay.polynomials import letters_of, partial
from ratesay.primes import Primes
from ratesay.rankings import places_of
from ratesay.samples import Sample, Setting


def orders_told(members):
    """The dict from the names that lead to the orders of their leaders."""
    return {member.leader[0]: member.leader[1] for member in members}


def free_names(model, members):
    """The list of the names of a model that lead nothing."""
    orders = orders_told(members)
    return [name for name in names_in(model) if name not in orders]


def may_be_general(model, members):
    """False if some members surely are not those of a general case, told by the number of free letters."""
    free = free_names(model, members)
    if sorted(free) != sorted(model[2]):
        return len(free) == len(model[2])
    return sum(list(orders_told(members).values())) == own_count(model)


def own_count(model):
    """The number of the states and parameters of a model."""
    return len(model[0]) + len(model[1])


def is_case_of_run(model, ranking, case):
    """Whether a simple case with a home is one of the general run of a model."""
    members = members_of(case[0], places_of(ranking))
    if not may_be_general(model, members):
        return False
    if sorted(free_names(model, members)) == sorted(model[2]):
        # Over the inputs there are as many free letters as states and parameters.
        return True
    primes = Primes(0)
    seed = 0
    found = None
    while found is None:
        seed += 1
        try:
            found = told_at_point(model, members, case, Sample(Setting(model, primes.another()), seed, {}))
        except TooMany:
            # Something is divided by that is 0 at this point; there are others.
            pass
    return found


def told_at_point(model, members, case, sample):
    """Whether a case is one of the general run, as far as one point tells; None if it does not."""
    for p in case[0]:
        if sample.value(p):
            return False
    heads = [q for member in members for q in (member.initial, member.separant)]
    for q in [*heads, *case[1]]:
        if sample.value(q) == 0:
            return None
    top = max([k for p in case[0] for _, k in letters_of(p)])
    changes = Changes(members, sample)
    echelon = Echelon(sample.p)
    rank = 0
    for name in names_in(model):
        for k in range(top + 1):
            if echelon.take(changes.row((name, k))) is not None:
                rank += 1
    return True if rank == len(model[2]) * (top + 1) + own_count(model) else None


class Changes:
    """How letters change with the free letters of a case at one point of it."""

    def __init__(self, members, sample):
        self.p = sample.p
        self.sample = sample
        self.members = {member.leader[0]: member for member in members}
        self.columns = {}
        self.rows = {}
        self.parts = {}
        self.turns = {}

    def row(self, v):
        """The dict from the columns of free letters to the changes of a letter with them."""
        if v not in self.rows:
            member = self.members.get(v[0])
            if member is None or v[1] < member.leader[1]:
                self.columns[v] = len(self.columns)
                self.rows[v] = {self.columns[v]: 1}
            else:
                self.rows[v] = self.led(member, v[1] - member.leader[1])
        return self.rows[v]

    def led(self, member, i):
        """The row of the i-th rate of a member's leader: the i-th rate of the member does not change."""
        found = {}
        for name, k in letters_of(member.p):
            for c in range(i + 1):
                w = (name, k + i - c)
                if w == (member.leader[0], member.leader[1] + i):
                    continue
                # The i-th rate of a product, in powers of t.
                factor = self.part(member, (name, k), c)
                for j in range(i - c + 1, i + 1):
                    factor = factor * j % self.p
                if factor:
                    for column, n in self.row(w).items():
                        found[column] = (found.get(column, 0) - n * factor) % self.p
        turn = self.turn(member)
        return {column: n * turn % self.p for column, n in found.items() if n}

    def turn(self, member):
        """1 / the value of the separant of a member."""
        if member.leader not in self.turns:
            self.turns[member.leader] = turned(self.sample.value(member.separant), self.p)
        return self.turns[member.leader]

    def part(self, member, v, c):
        """The coefficient of t to the power c of the partial derivative of a member by a letter."""
        key = (member.leader, v)
        if key not in self.parts:
            self.parts[key] = Along(self.sample, partial(member.p, v))
        return self.parts[key].coefficient(c)


class Along:
    """The coefficients of the powers of t of a polynomial along the run of a sample."""

    def __init__(self, sample, q):
        self.sample = sample
        self.p = sample.p
        self.q = q
        self.numbers = {}

    def letter_number(self, v, k):
        """The coefficient of t to the power k of a letter."""
        found = self.sample.worth((v[0], v[1] + k))
        for j in range(2, k + 1):
            found = found * turned(j, self.p) % self.p
        return found

    def part(self, monomial, k):
        """The coefficient of t to the power k of a monomial."""
        if not monomial:
            return 0 if k else 1
        key = (monomial, k)
        if key not in self.numbers:
            v, e = monomial[0]
            rest = ((v, e - 1), *monomial[1:]) if e > 1 else monomial[1:]
            total = 0
            for i in range(k + 1):
                total += self.letter_number(v, i) * self.part(rest, k - i)
            self.numbers[key] = total % self.p
        return self.numbers[key]

    def coefficient(self, k):
        """The coefficient of t to the power k."""
        total = 0
        for monomial, (n, d) in self.q:
            total += n * turned(d, self.p) % self.p * self.part(monomial, k)
        return total % self.p
