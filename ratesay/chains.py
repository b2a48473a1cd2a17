"""What two polynomials have in common as polynomials of one letter: resultants as sums of multiples."""

from ratesay.polynomials import (
    UNIT,
    coefficients,
    degree,
    joined,
    less,
    plus,
    pseudo,
    quotient,
    raised,
    scaled,
    times,
)


def resultant(g, f, v, scope=None):
    """The triple (r, a, b) with r = a g + b f free of v, r () if both have a common factor with v.

    Both have v; the degree of f is not above that of g. A scope gives up when this takes too long.
    """
    if degree(f, v) == 1:
        k, q, r = pseudo(g, f, v)
        return (r, raised(coefficients(f, v)[-1], k), scaled(q, (-1, 1)))
    r, b = chain_of(g, f, v, scope)[-1]
    if not r:
        return ((), (), ())
    return (r, other_multiple(g, f, r, b), b)


def other_multiple(g, f, r, b):
    """The polynomial a with r = a g + b f."""
    return quotient(less(r, times(b, f)), g)


def charge(scope, p, q):
    """Tells a scope of a product."""
    if scope is not None:
        scope.spend(len(p) * len(q))


def divided(g, p, v, k, scope):
    """The pair (q, r) with I to the power k, times g, = q p + r, I the highest coefficient of p by v."""
    lead = coefficients(p, v)[-1]
    d = degree(p, v)
    q, r = (), g
    left = k
    while degree(r, v) >= d:
        parts = coefficients(r, v)
        factor = joined((*[() for _ in range(len(parts) - 1 - d)], parts[-1]), v)
        for one, other in ((lead, q), (lead, r), (factor, p)):
            charge(scope, one, other)
        q = plus(times(lead, q), factor)
        r = less(times(lead, r), times(factor, p))
        left -= 1
    spare = raised(lead, left)
    charge(scope, spare, q)
    charge(scope, spare, r)
    return (times(spare, q), times(spare, r))


def chain_of(g, f, v, scope=None):
    """The list of (r, b): the subresultants of g and f below f, down to one free of v, and their multiples of f."""
    r0, r1, b0, b1 = g, f, (), UNIT
    step = degree(g, v) - degree(f, v)
    turn = scaled(UNIT, (1 if step & 1 else -1, 1))
    worth = scaled(UNIT, (-1, 1))
    found = []
    while degree(r1, v) > 0:
        lead = coefficients(r1, v)[-1]
        q, r = divided(r0, r1, v, step + 1, scope)
        power = raised(lead, step + 1)
        for one, other in ((power, b0), (q, b1), (turn, r)):
            charge(scope, one, other)
        b = less(times(power, b0), times(q, b1))
        r0, b0 = r1, b1
        r1, b1 = quotient(r, turn), quotient(b, turn)
        found.append((r1, b1))
        if not r1:
            return found
        against = scaled(lead, (-1, 1))
        if step > 1:
            worth = quotient(raised(against, step), raised(worth, step - 1))
        elif step == 1:
            worth = against
        step = degree(r0, v) - degree(r1, v)
        turn = times(against, raised(worth, step))
    return found
