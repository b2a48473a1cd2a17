"""Rests of polynomials by steps with equations and their rates."""

from ratesay.errors import BadEquations, BadPolynomial, BadSteps, TooGreat, TooMany
from ratesay.members import MOST_STEP, is_steps, members_of, orders_of, proper_rates, step_work, stepped
from ratesay.polynomials import (
    coefficients,
    degree,
    is_polynomial,
    names_of,
    plus,
    quotient,
    raised,
    times,
)
from ratesay.rankings import check_names, key_of
from ratesay.ratios import ONE, capped_power

MOST_RATE_TERMS = 3000
MOST_PRODUCTS = 200000


def is_polynomials(value):
    """Whether any value is a tuple of polynomials."""
    if type(value) is not tuple:
        return False
    for p in value:
        if not is_polynomial(p):
            return False
    return True


def looked_at(f, equations, ranking):
    """The pair of the members of equations and the places of the ranking, when all three have been looked at."""
    if not is_polynomial(f):
        raise BadPolynomial()
    if not is_polynomials(equations):
        raise BadEquations()
    names = list(names_of(f))
    for p in equations:
        names.extend(names_of(p))
    places = check_names(names, ranking)
    members = members_of(equations, places)
    if members is None:
        raise BadEquations()
    return (members, places)


def is_partly_reduced(f, equations, ranking):
    """Whether no proper rate of a leader stands in f."""
    members, _ = looked_at(f, equations, ranking)
    return not proper_rates(f, orders_of(members))


def is_reduced(f, equations, ranking):
    """Whether f is partly reduced, and of a lower degree in each leader than the member."""
    members, _ = looked_at(f, equations, ranking)
    if proper_rates(f, orders_of(members)):
        return False
    for member in members:
        if degree(f, member.leader) >= member.degree:
            return False
    return True


def partial_rest(f, equations, ranking):
    """The pair (steps, rest): steps with rates to a partly reduced rest."""
    members, places = looked_at(f, equations, ranking)
    steps, rest = partial_steps(f, members, places)
    return (tuple(steps), rest)


def whole_rest(f, equations, ranking):
    """The pair (steps, rest): steps to a reduced rest."""
    members, places = looked_at(f, equations, ranking)
    steps, rest = whole_steps(f, members, places)
    return (tuple(steps), rest)


def partial_steps(f, members, places):
    """The pair of the list of steps and the partly reduced rest of f."""
    orders = orders_of(members)
    numbers = {member.leader[0]: i for i, member in enumerate(members)}
    steps = []
    g = f
    while True:
        found = proper_rates(g, orders)
        if not found:
            return (steps, g)
        v = max([(key_of(places, w), w) for w in found])[1]
        i = numbers[v[0]]
        step, g = lowered(g, members[i], i, v[1] - orders[v[0]], v, 1)
        steps.append(step)


def whole_steps(f, members, places):
    """The pair of the list of steps and the reduced rest of f."""
    steps, g = partial_steps(f, members, places)
    order = sorted([(key_of(places, member.leader), i) for i, member in enumerate(members)], reverse=True)
    for _, i in order:
        member = members[i]
        while degree(g, member.leader) >= member.degree:
            step, g = lowered(g, member, i, 0, member.leader, member.degree)
            steps.append(step)
    return (steps, g)


def lowered(g, member, i, j, v, d):
    """The pair of a step with the j-th rate, of the degree d in the letter v, and what it makes of g."""
    parts = coefficients(g, v)
    top = len(parts) - 1
    factor = quotient(parts[top], member.head(j))
    e = 0
    if factor is None:
        e = 1
        factor = parts[top]
    m = times(factor, letter_power(v, top - d))
    rate = member.rate_within(j, MOST_RATE_TERMS) if j <= MOST_STEP else None
    if rate is None or step_work(g, member.head(j), e, m, rate, MOST_PRODUCTS) > MOST_PRODUCTS:
        # follow would refuse this step.
        raise TooMany()
    return ((i, j, e, m), stepped(g, member.head(j), e, m, rate))


def letter_power(v, e):
    """The letter v to the power e."""
    if e == 0:
        return (((), ONE),)
    return ((((v, e),), ONE),)


def checked_steps(f, equations, ranking, steps):
    """The members of equations, when all four have been looked at."""
    members, _ = looked_at(f, equations, ranking)
    if not is_steps(steps, len(members)):
        raise BadSteps()
    return members


def follow(f, equations, ranking, steps):
    """The rest of f by the steps."""
    return followed(f, checked_steps(f, equations, ranking, steps), steps)


def followed(f, members, steps):
    """The rest of f by steps that are right for the members."""
    g = f
    for i, j, e, m in steps:
        head = members[i].head(j)
        rate = members[i].rate_within(j, MOST_RATE_TERMS)
        if rate is None or step_work(g, head, e, m, rate, MOST_PRODUCTS) > MOST_PRODUCTS:
            raise TooGreat("rest")
        g = stepped(g, head, e, m, rate)
    return g


def identity(f, equations, ranking, steps):
    """The pair (FACTORS, ROWS) of the identity that the steps of f give."""
    members = checked_steps(f, equations, ranking, steps)
    followed(f, members, steps)
    rows = {}
    factors = {}
    for i, j, e, m in steps:
        if e:
            rows = multiplied_rows(rows, members[i].head(j), e)
            key = ("separant" if j else "initial", i)
            factors[key] = factors.get(key, 0) + e
        rows[(i, j)] = plus(rows.get((i, j), ()), m)
    told = [(kind, i, factors[(kind, i)]) for kind, i in sorted(factors)]
    return (tuple(told), tuple([(i, j, rows[(i, j)]) for i, j in sorted(rows) if rows[(i, j)]]))


def multiplied_rows(rows, head, e):
    """The multipliers so far, each times the head to the power e."""
    terms = sum([len(m) for m in rows.values()])
    if terms == 0:
        return rows
    if capped_power(len(head), e, MOST_PRODUCTS) * terms > MOST_PRODUCTS:
        raise TooGreat("identity")
    factor = raised(head, e)
    return {key: times(m, factor) for key, m in rows.items()}
