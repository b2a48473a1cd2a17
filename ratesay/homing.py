"""Finding homes: steps that lead the equations of a system to 0 by those of a case, within the bounds of homes."""

from ratesay.errors import TooMany
from ratesay.members import MOST_STEP, step_work, stepped
from ratesay.polynomials import coefficients, degree, letters_of, quotient, times
from ratesay.rankings import key_of
from ratesay.remainders import letter_power
from ratesay.treesteps import MOST_WORK, Budget, rate_work

RATES = 0
FACTORS = 1


class Homing:
    """Steps with the equations of a case; the work of all of them is counted if it is bounded.

    The way tells which letter goes first where factors are needed.
    """

    def __init__(self, members, places, is_bounded, way):
        self.way = way
        self.members = members
        self.places = places
        self.numbers = {member.leader[0]: i for i, member in enumerate(members)}
        self.is_bounded = is_bounded
        self.budget = Budget()
        self.steps = []

    def spend(self, work):
        """Gives up when the work is beyond the bounds."""
        if self.is_bounded and not self.budget.spend(work):
            raise TooMany()

    def rate(self, i, j):
        """The j-th rate of a member."""
        member = self.members[i]
        if self.is_bounded and j > MOST_STEP:
            raise TooMany()
        while len(member.rates) <= j:
            self.spend(rate_work(member.rates[-1]))
            member.grow()
        return member.rates[j]

    def reducible(self, g):
        """The list of (key, letter, i, j), from the highest letter down: the j-th rate of member i lowers g there."""
        found = []
        for v in letters_of(g):
            if v[0] in self.numbers:
                i = self.numbers[v[0]]
                member = self.members[i]
                j = v[1] - member.leader[1]
                if j > 0 or j == 0 and degree(g, v) >= member.degree:
                    found.append((key_of(self.places, v), v, i, j))
        return sorted(found, reverse=True)

    def lowered(self, g, row, e, factor):
        """What a step makes of g that multiplies by e heads, factor being that of the highest power of a letter."""
        _, v, i, j = row
        top = degree(g, v) - (1 if j else self.members[i].degree)
        m = times(factor, letter_power(v, top))
        head, rate = self.members[i].head(j), self.rate(i, j)
        self.spend(step_work(g, head, e, m, rate, MOST_WORK))
        self.steps.append((i, j, e, m))
        return stepped(g, head, e, m, rate)

    def free_step(self, g, rows):
        """What a step without a factor makes of g, None if there is none."""
        for row in rows:
            _, v, i, j = row
            q = quotient(coefficients(g, v)[-1], self.members[i].head(j))
            if q is not None:
                return self.lowered(g, row, 0, q)
        return None

    def chosen(self, g, rows):
        """The row by which g is lowered: rates go first, or what asks for the least factors."""
        if self.way == RATES:
            rates = [row for row in rows if row[3]]
            return rates[0] if rates else rows[0]
        found = []
        for k, (_, v, i, j) in enumerate(rows):
            found.append((degree(g, v) * len(self.members[i].head(j)), k))
        return rows[min(found)[1]]

    def rest(self, p):
        """What the equations leave of p, all steps being kept."""
        self.steps = []
        g = p
        rows = self.reducible(g)
        while rows:
            low = self.free_step(g, rows)
            if low is None:
                row = self.chosen(g, rows)
                low = self.lowered(g, row, 1, coefficients(g, row[1])[-1])
            g = low
            rows = self.reducible(g)
        return g


def home_steps(members, places, equations):
    """The tuple of the steps that lead each equation to 0; None if that is beyond the bounds."""
    for way in (RATES, FACTORS):
        found = home_steps_by(Homing(members, places, True, way), equations)
        if found is not None:
            return found
    return None


def home_steps_by(homing, equations):
    """The tuple of the steps that lead each equation to 0 in one way; None if that is beyond the bounds."""
    found = []
    try:
        for p in equations:
            if homing.rest(p):
                return None
            found.append(tuple(homing.steps))
    except TooMany:
        return None
    return tuple(found)


def is_led_away(p, members, places):
    """Whether equations leave nothing of p, however much work that is."""
    return not Homing(members, places, False, RATES).rest(p)
