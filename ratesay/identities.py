"""Sums of multiples of the rates of a case's equations that come to a multiple of a polynomial."""

from ratesay.beginning import MOST_SPENT, case_branch
from ratesay.branches import Scope
from ratesay.errors import TooMany
from ratesay.polynomials import UNIT, plus, quotient, scaled, times
from ratesay.treesteps import power_product
from ratesay.verdicts import brought_down


def identity_of(case, members, places, p):
    """The pair (s, rows): s p is the sum of all c times the j-th rate of A[i], rows having the (i, j, c)."""
    if not p:
        return (UNIT, ())
    scope = Scope(places, True, MOST_SPENT)
    branch = case_branch(scope, case)
    chain, last = brought_down(scope, branch, p)
    if last:
        raise TooMany()
    s, w = UNIT, UNIT
    table = {}
    for _, _, a, refs, f, powers, _ in chain:
        if a != UNIT:
            s = times(a, s)
            table = {pair: times(a, c) for pair, c in table.items()}
        for place, j, m in refs:
            table[(place, j)] = plus(table.get((place, j), ()), times(w, m))
        w = scaled(times(w, power_product(branch.inequations, powers)), f)
    rows = [(i, j, table[(i, j)]) for i, j in sorted(table) if table[(i, j)]]
    return without_parts(branch, s, rows)


def without_parts(branch, s, rows):
    """An identity divided by the known polynomials that divide all of it."""
    for part in branch.parts:
        found = divided(s, rows, part)
        while found is not None:
            s, rows = found
            found = divided(s, rows, part)
    return (s, tuple(rows))


def divided(s, rows, part):
    """The identity divided by a polynomial, or None if that does not divide all of it."""
    q = quotient(s, part)
    if q is None:
        return None
    found = []
    for i, j, c in rows:
        low = quotient(c, part)
        if low is None:
            return None
        found.append((i, j, low))
    return (q, found)


def cost_of(members, rows):
    """What an identity costs."""
    total = 0
    tops = {}
    for i, j, c in rows:
        total += len(c) * len(members[i].rates[j])
        tops[i] = max(j, tops.get(i, 0))
    for i in tops:
        total += sum([len(members[i].rates[k]) for k in range(1, tops[i] + 1)])
    return total
