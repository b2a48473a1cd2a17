"""Nodes that grow: what holds at a node, what is solved there, and the steps that placed it."""

from ratesay.errors import TooMany
from ratesay.factors import factors_of, is_surely_prime
from ratesay.members import Member
from ratesay.packing import sum_of_products
from ratesay.polynomials import (
    UNIT,
    as_number,
    common_divisor,
    letters_of,
    plus,
    primitive,
    quotient,
    raised,
    scaled,
    times,
)
from ratesay.rankings import highest, key_of
from ratesay.ratios import inverted, multiplied
from ratesay.treesteps import MOST_EXPONENT, power_product, power_work, rate_work, row_work

MOST_TERMS = 6000
# The bits of 4,000 digits.
MOST_BITS = 13280
# What finding may try: about as many products of pairs as take a minute.
MOST_TOIL = 20000000
# Products of known polynomials of more work than this are worked out one after the other.
MOST_AT_ONCE = 400


class Scope:
    """What all branches of one search share: the ranking, what was worked out, the work done so far."""

    def __init__(self, places, with_rates, most):
        self.places = places
        self.with_rates = with_rates
        self.most = most
        self.spent = 0
        self.tried = 0
        self.members = {}
        self.factors = {}
        self.primes = {}

    def key(self, v):
        """The key of a letter."""
        return key_of(self.places, v)

    def highest(self, p):
        """The highest letter of p."""
        return highest(p, self.places)

    def member(self, p):
        """p as an equation to divide by."""
        if p not in self.members:
            self.members[p] = Member(p, self.highest(p))
        return self.members[p]

    def pieces(self, p):
        """The different factors of p that are easily found."""
        if p not in self.factors:
            # Common divisors of many pairs, letters and digits take the longest of all.
            self.toil(len(p) * len(p) * len(letters_of(p)) * (1 + widest(p) // 30))
            self.factors[p] = factors_of(p)
        return self.factors[p]

    def is_prime(self, p):
        """Whether a found factor surely has no factors."""
        if p not in self.primes:
            self.primes[p] = is_surely_prime(p)
        return self.primes[p]

    def spend(self, work):
        """Gives up when the whole work is too great."""
        self.spent += work
        if self.spent > self.most:
            raise TooMany()

    def toil(self, amount):
        """Gives up when what was tried on the way is too much, though it may not stand in the tree."""
        self.tried += amount
        if self.tried > MOST_TOIL:
            raise TooMany()

    def weigh(self, p):
        """Gives up when p is beyond what may stand in a tree, or too much was tried."""
        if not p:
            return
        bits = widest(p)
        if len(p) > MOST_TERMS or bits > MOST_BITS:
            raise TooMany()
        self.toil(len(p) * (1 + bits // 50))

    def rank(self, p):
        """What a polynomial is chosen by: the lowest leader, then the least degree and size."""
        member = self.member(p)
        return (self.key(member.leader), member.degree, len(p))


class Branch:
    """A node that grows."""

    def __init__(self, equations, inequations, givens, number):
        self.equations = equations
        self.inequations = inequations
        self.givens = givens
        self.number = number
        self.steps = []
        self.end = None
        self.solved = {}
        self.kept = []
        self.open_equations = []
        self.open_inequations = []
        self.parts = {}
        self.rate_places = {}
        self.doubt = None

    def child(self, number):
        """A branch that goes on from here."""
        found = Branch(list(self.equations), list(self.inequations), self.givens, number)
        found.solved = {v: place for v, place in self.solved.items()}
        found.kept = list(self.kept)
        found.open_equations = list(self.open_equations)
        found.open_inequations = list(self.open_inequations)
        found.parts = {part: place for part, place in self.parts.items()}
        found.rate_places = {pair: place for pair, place in self.rate_places.items()}
        return found

    def joins(self, step, p):
        """Places p in E by a step; its place."""
        self.steps.append(step)
        self.equations.append(p)
        return len(self.equations) - 1

    def joins_others(self, step, p):
        """Places p in N by a step; its place."""
        self.steps.append(step)
        self.inequations.append(p)
        return len(self.inequations) - 1

    def leaders(self):
        """The dict from the names that lead to the orders of their solved leaders."""
        return {v[0]: v[1] for v in self.solved}


def widest(p):
    """The bits of the widest integer in p."""
    return max([max(abs(f[0]), f[1]).bit_length() for _, f in p])


def root_branch(system):
    """The branch with which a tree of the system begins."""
    first, second = system
    found = Branch(list(first), list(second), (tuple(first), tuple(second)), 0)
    found.open_equations = list(range(len(first)))
    found.open_inequations = list(range(len(second)))
    return found


def rate_place(scope, branch, place, j):
    """The place in E of the j-th rate of E[place]."""
    if j == 0:
        return place
    if (place, j) not in branch.rate_places:
        low = rate_place(scope, branch, place, j - 1)
        p = rate_of(scope, branch, place, j)
        scope.spend(rate_work(branch.equations[low]))
        branch.rate_places[(place, j)] = branch.joins(("rate", low), p)
    return branch.rate_places[(place, j)]


def rate_of(scope, branch, place, j):
    """The j-th rate of E[place]."""
    if j == 0:
        return branch.equations[place]
    found = scope.member(branch.equations[place]).rate_within(j, MOST_TERMS)
    if found is None:
        raise TooMany()
    return found


def place_sum(scope, branch, rows):
    """The place in E of the sum of a list of pairs (place, multiplier)."""
    told = tuple([(i, m) for i, m in rows if m])
    scope.spend(row_work(branch.equations, told))
    p = sum_of_products([(m, branch.equations[i]) for i, m in told])
    scope.weigh(p)
    return branch.joins(("sum", told), p)


def place_without(scope, branch, place, g, powers):
    """The place in E of g, E[place] being alike g times the product of powers."""
    work = power_work(branch.inequations, powers) * len(g)
    if powers and not is_light(powers, work):
        # One factor after the other makes less work than all at once.
        j, e = powers[-1]
        many = 1 if work > MOST_AT_ONCE else min(e, MOST_EXPONENT)
        left = (*powers[:-1], (j, e - many)) if e > many else powers[:-1]
        low = quotient(branch.equations[place], raised(branch.inequations[j], many))
        at = place_without(scope, branch, place, primitive(low)[1], ((j, many),))
        return place_without(scope, branch, at, g, left) if left else at
    scope.spend(work)
    return branch.joins(("cancel", place, g, powers), g)


def is_light(powers, work):
    """Whether a power row may stand as it is in a step of some work."""
    if max([e for _, e in powers], default=0) > MOST_EXPONENT:
        return False
    return work <= MOST_AT_ONCE or sum([e for _, e in powers]) < 2


def lighter(scope, branch, powers):
    """A power row for the same product, of which the work and the exponents are not too great."""
    if is_light(powers, power_work(branch.inequations, powers)):
        return powers
    flat = sorted([(len(branch.inequations[j]), j) for j, e in powers for _ in range(e)])
    at = flat[0][1]
    for _, j in flat[1:]:
        pair = ((min(at, j), 1), (max(at, j), 1)) if at != j else ((j, 2),)
        scope.spend(power_work(branch.inequations, pair))
        p = times(branch.inequations[at], branch.inequations[j])
        scope.weigh(p)
        at = branch.joins_others(("nonzero", pair, ()), p)
    return ((at, 1),)


def place_nonzero(scope, branch, powers, rows):
    """The place in N of the product of powers plus the sum of rows."""
    powers = lighter(scope, branch, powers)
    told = tuple([(i, m) for i, m in rows if m])
    scope.spend(power_work(branch.inequations, powers) + row_work(branch.equations, told))
    p = plus(power_product(branch.inequations, powers), sum_of_products([(m, branch.equations[i]) for i, m in told]))
    scope.weigh(p)
    return branch.joins_others(("nonzero", powers, told), p)


def place_divisor(scope, branch, powers, g, h):
    """The place in N of g, the product of powers being alike g h."""
    powers = lighter(scope, branch, powers)
    scope.spend(power_work(branch.inequations, powers) + len(g) * len(h))
    return branch.joins_others(("divisor", powers, g, h), g)


def note(scope, branch, place):
    """Notes the factors of N[place] as known not to be 0; no two noted ones have a common factor."""
    p = branch.inequations[place]
    if as_number(p) is not None:
        return
    waiting = [(part, place) for part in scope.pieces(p)]
    while waiting:
        q, at = waiting.pop()
        if q in branch.parts or as_number(q) is not None:
            continue
        other, common = shared(scope, branch, q)
        if other is None:
            branch.parts[q] = divisor_of(scope, branch, at, q)
            continue
        if other != common:
            low = branch.parts.pop(other)
            waiting.append((common, low))
            waiting.append((primitive(quotient(other, common))[1], low))
        waiting.append((primitive(quotient(q, common))[1], at))


def divisor_of(scope, branch, place, q):
    """The place in N of a polynomial q that divides N[place]."""
    p = branch.inequations[place]
    if p == q:
        return place
    return place_divisor(scope, branch, ((place, 1),), q, quotient(p, q))


def shared(scope, branch, q):
    """A noted part and the factor that it has in common with q, (None, None) if there is none."""
    sure = scope.is_prime(q)
    for part in branch.parts:
        if not sure or not scope.is_prime(part):
            common = common_divisor(q, part)
            if as_number(common) is None:
                return (part, common)
    return (None, None)


def stripped(branch, p):
    """The triple (f, powers, rest): p is f times the product of powers, times rest; rest is primitive."""
    f, rest = primitive(p)
    powers = {}
    letters = {v: True for v in letters_of(rest)}
    for part, place in branch.parts.items():
        if within(part, letters):
            q = quotient(rest, part)
            while q is not None:
                powers[place] = powers.get(place, 0) + 1
                rest = q
                q = quotient(rest, part)
    g, rest = primitive(rest)
    return (multiplied(f, g), tuple([(place, powers[place]) for place in sorted(powers)]), rest)


def within(part, letters):
    """Whether all letters of a polynomial are in the dict."""
    for monomial, _ in part:
        for v, _ in monomial:
            if v not in letters:
                return False
    return True


def next_step(scope, branch, g):
    """How g goes on to be reduced: (a, (place, j, m)), so that a g less m times the j-th rate is lower; or None."""
    letters = letters_of(g)
    if scope.with_rates:
        orders = branch.leaders()
        found = [(scope.key(v), v) for v in letters if v[0] in orders and v[1] > orders[v[0]]]
        if found:
            v = max(found)[1]
            order = orders[v[0]]
            return step_at(scope, branch, g, v, branch.solved[(v[0], order)], v[1] - order)
    found = [(scope.key(v), v) for v in letters if v in branch.solved]
    for _, v in sorted(found, reverse=True):
        member = scope.member(branch.equations[branch.solved[v]])
        if degree_in(g, v) >= member.degree:
            return step_at(scope, branch, g, v, branch.solved[v], 0)
    return None


def degree_in(g, v):
    """The highest exponent of v in g."""
    top = 0
    for monomial, _ in g:
        for w, e in monomial:
            if w == v and e > top:
                top = e
    return top


def step_at(scope, branch, g, v, place, j):
    """The step that lowers the degree of g in v by the j-th rate of the solved member at a place."""
    member = scope.member(branch.equations[place])
    head = member.head(j)
    top = degree_in(g, v)
    c = top_part(g, v, top)
    low = top - (1 if j else member.degree)
    a = UNIT
    m = quotient(c, head)
    if m is None:
        a, m = lowest_multiples(branch, c, head)
    return (a, (place, j, times(m, power_of(v, low))))


def top_part(g, v, top):
    """The coefficient of v to the power top in g."""
    found = []
    for monomial, f in g:
        for k, (w, e) in enumerate(monomial):
            if w == v and e == top:
                found.append((monomial[:k] + monomial[k + 1:], f))
    return tuple(sorted(found))


def power_of(v, e):
    """The letter v to the power e."""
    if e == 0:
        return UNIT
    return ((((v, e),), (1, 1)),)


def lowest_multiples(branch, c, head):
    """The pair (a, m) with a c = m head, a a product of known polynomials."""
    a, m = head, c
    for part in branch.parts:
        x, y = quotient(a, part), quotient(m, part)
        while x is not None and y is not None:
            a, m = x, y
            x, y = quotient(a, part), quotient(m, part)
    f = as_number(a)
    if f is not None:
        return (UNIT, scaled(m, inverted(f)))
    return (a, m)
