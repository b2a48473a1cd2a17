"""Equations to divide by, made ready, and single steps with them."""

from ratesay.forms import is_count
from ratesay.polynomials import coefficients, is_polynomial, less, letters_of, partial, raised, times
from ratesay.rankings import highest
from ratesay.rates import next_rate
from ratesay.ratios import capped_power

MOST_STEP = 20


class Member:
    """One equation to divide by: its leader, leading degree, initial, separant, and the rates asked so far."""

    def __init__(self, p, leader):
        parts = coefficients(p, leader)
        self.p = p
        self.leader = leader
        self.degree = len(parts) - 1
        self.initial = parts[-1]
        self.separant = partial(p, leader)
        self.rates = [p]

    def grow(self):
        """Works out one further rate."""
        self.rates.append(next_rate(self.rates[-1]))

    def rate_within(self, j, most):
        """The j-th rate, or None if one of the rates from the first to the j-th has more than most pairs."""
        for k in range(1, j + 1):
            if k == len(self.rates):
                self.grow()
            if len(self.rates[k]) > most:
                return None
        return self.rates[j]

    def head(self, j):
        """The separant for a step with the j-th rate, j from 1 on, the initial for one with p itself."""
        if j:
            return self.separant
        return self.initial


def members_of(equations, places):
    """The list of the members of what surely is a tuple of polynomials; None if they are no divisors."""
    found = []
    orders = {}
    for p in equations:
        v = highest(p, places)
        if v is None or v[0] in orders:
            return None
        orders[v[0]] = v[1]
        found.append((p, v))
    for p, _ in found:
        if proper_rates(p, orders):
            return None
    return [Member(p, v) for p, v in found]


def orders_of(members):
    """The dict from the names that lead to the orders of their leaders."""
    return {member.leader[0]: member.leader[1] for member in members}


def proper_rates(p, orders):
    """The letters of p that are proper rates of leaders; orders tells the order of the leader of each name."""
    return [v for v in letters_of(p) if v[0] in orders and v[1] > orders[v[0]]]


def is_step(value, count):
    """Whether any value is a step for so many members, with exponents and rates up to MOST_STEP."""
    if type(value) is not tuple or len(value) != 4:
        return False
    i, j, e, m = value
    if not is_count(i, 0) or not is_count(j, 0) or not is_count(e, 0):
        return False
    return i < count and j <= MOST_STEP and e <= MOST_STEP and is_polynomial(m)


def is_steps(value, count):
    """Whether any value is a tuple of steps."""
    if type(value) is not tuple:
        return False
    for step in value:
        if not is_step(step, count):
            return False
    return True


def step_work(g, head, e, m, rate, cap):
    """The products of pairs that a step costs on g; some integer above cap if that is above cap."""
    return capped_power(len(head), e, cap) * len(g) + len(m) * len(rate)


def stepped(g, head, e, m, rate):
    """What a step makes of g."""
    # Without g the power of the head need not be worked out, however great it is.
    first = times(raised(head, e), g) if g else ()
    return less(first, times(m, rate))
