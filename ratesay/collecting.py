"""Sums of many terms, powers of one term, and contents, on polynomials as tuples of pairs."""

from math import gcd, lcm

from ratesay.ratios import ONE, added, integer_power, reduced, summed


def merged(p, q):
    """The sum of two polynomials."""
    found = []
    k = 0
    for pair in q:
        while k < len(p) and p[k][0] < pair[0]:
            found.append(p[k])
            k += 1
        if k < len(p) and p[k][0] == pair[0]:
            f = added(p[k][1], pair[1])
            if f[0]:
                found.append((pair[0], f))
            k += 1
        else:
            found.append(pair)
    found.extend(p[k:])
    return tuple(found)


def collected(rows):
    """The polynomial of a list of pairs (monomial, fraction) in any order, monomials as often as one likes."""
    table = {}
    for monomial, f in rows:
        table.setdefault(monomial, []).append(f)
    found = []
    for monomial, parts in table.items():
        f = summed(parts)
        if f[0]:
            found.append((monomial, f))
    return tuple(sorted(found))


def total(polynomials):
    """The sum of a list of polynomials."""
    rows = []
    for p in polynomials:
        rows.extend(p)
    return collected(rows)


def powered(p, e):
    """A polynomial of at most one pair to the power e, e from 1 on."""
    if not p:
        return ()
    monomial, f = p[0]
    raised = tuple([(v, k * e) for v, k in monomial])
    if f == ONE:
        return ((raised, f),)
    return ((raised, (integer_power(f[0], e), integer_power(f[1], e))),)


def primitive_parts(p):
    """The pair (content, primitive polynomial) of a polynomial other than 0."""
    common, scale = 0, 1
    for _, f in p:
        common = gcd(common, f[0])
        if scale % f[1]:
            scale = lcm(scale, f[1])
    if p[-1][1][0] < 0:
        common = -common
    found = tuple([(monomial, (f[0] // common * (scale // f[1]), 1)) for monomial, f in p])
    return (reduced(common, scale), found)


def integers_of(frame, p):
    """The dict from packed monomials to the integers of the primitive polynomial alike p."""
    return {frame.packed(monomial): f[0] for monomial, f in primitive_parts(p)[1]}
