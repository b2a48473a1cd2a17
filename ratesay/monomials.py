"""Monomials of a degree, in the order in which bases of spaces of polynomials are told."""

from math import comb

from ratesay.ratios import ONE


def degree_of(p):
    """The greatest sum of the exponents of a monomial of p, 0 for 0."""
    return max([sum([e for _, e in monomial]) for monomial, _ in p], default=0)


def count_to(letters, n):
    """The number of the monomials of degree at most n in so many letters."""
    return comb(letters + n, n)


def monomials_of(letters, n):
    """The list of the monomials of the degree n in letters, a list, ascending."""
    if n == 0:
        return [()]
    if not letters:
        return []
    found = []
    first, *rest = letters
    for e in range(n + 1):
        head = ((first, e),) if e else ()
        found.extend([head + tail for tail in monomials_of(rest, n - e)])
    return sorted(found)


def monomials_to(letters, n):
    """The list of the monomials of degree at most n in letters: those of higher degree first, then ascending."""
    found = []
    for k in range(n, -1, -1):
        found.extend(monomials_of(letters, k))
    return found


def place_of(monomial):
    """What monomials are ordered by."""
    return (-sum([e for _, e in monomial]), monomial)


def lead_of(p):
    """The first monomial of a polynomial other than 0."""
    return min([place_of(monomial) for monomial, _ in p])[1]


def is_told_base(polynomials):
    """Whether polynomials other than 0 are the told base of the space that they span."""
    leads = [lead_of(p) for p in polynomials]
    for k, p in enumerate(polynomials):
        if k and not place_of(leads[k - 1]) < place_of(leads[k]):
            return False
        for monomial, f in p:
            if monomial == leads[k]:
                if f != ONE:
                    return False
            elif monomial in leads:
                return False
    return True


def combination(monomials, vector):
    """The polynomial of a dict from the places of monomials to fractions."""
    return tuple(sorted([(monomials[column], f) for column, f in vector.items()]))
