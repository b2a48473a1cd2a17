"""Determinants of rows of polynomials, and known factors that are taken out of them."""

from math import gcd, lcm

from ratesay.errors import TooMany
from ratesay.factors import factors_of, lowest_exponents, without_letters
from ratesay.packing import sum_of_products
from ratesay.polynomials import UNIT, as_number, letter, letters_of, primitive, quotient, raised, scaled, times
from ratesay.ratios import reduced

MOST_PARTED = 60


def grown(table, row, count, most, many):
    """The determinants with one row and one column more, by the tuples of their columns.

    TooMany is raised if one has more than most pairs, or all cost more than many products.
    """
    sums = {}
    toil = 0
    for columns, p in table.items():
        for k in range(count):
            if k not in columns and row[k]:
                place = len([column for column in columns if column > k])
                whole = tuple(sorted([*columns, k]))
                q = scaled(row[k], (-1, 1)) if place & 1 else row[k]
                sums.setdefault(whole, []).append((p, q))
                toil += len(p) * len(q)
    if toil > many:
        raise TooMany()
    found = {}
    for columns, pairs in sums.items():
        found[columns] = sum_of_products(pairs)
        if len(found[columns]) > most:
            raise TooMany()
    return found


def minors_of(rows, count, most, many):
    """The list of the determinants of rows without one of count columns each, up to their signs; bounds as in grown."""
    table = {(): UNIT}
    for row in rows:
        table = grown(table, row, count, most, many)
    return [table.get(tuple([k for k in range(count) if k != column]), ()) for column in range(count)]


def easy_factors(p):
    """The factors of a polynomial, itself if they are not easily found."""
    if not p:
        return []
    if len(p) > MOST_PARTED:
        return [primitive(p)[1]]
    try:
        return factors_of(p)
    except TooMany:
        return [primitive(p)[1]]


class Parts:
    """Known factors that are taken out of polynomials."""

    def __init__(self, polynomials):
        self.factors = []
        for p in polynomials:
            for q in easy_factors(p):
                if as_number(q) is None and q not in self.factors:
                    self.factors.append(q)

    def parted(self, p):
        """The pair of a polynomial without the known factors and the list of their exponents; none for 0."""
        if not p:
            return (p, [0 for _ in self.factors])
        low = lowest_exponents(p)
        low = {v: e for v, e in low.items() if letter(v[0], v[1]) in self.factors}
        p = without_letters(p, low) if low else p
        found = []
        for q in self.factors:
            if len(q) == 1:
                found.append(low.get(letters_of(q)[0], 0))
                continue
            e = 0
            part = quotient(p, q)
            while part is not None:
                p = part
                e += 1
                part = quotient(p, q)
            found.append(e)
        return (p, found)

    def product(self, row):
        """The product of the known factors to some powers."""
        found = UNIT
        for q, e in zip(self.factors, row):
            if e:
                found = times(found, raised(q, e))
        return found

    def taken(self, rows):
        """The pair (polynomials, least): pairs (p, exponents) without the known factors they have in common.

        least are the exponents of these factors.
        """
        least = [min([row[k] for p, row in rows if p], default=0) for k, _ in enumerate(self.factors)]
        found = []
        for p, row in rows:
            found.append(times(p, self.product([e - low for e, low in zip(row, least)])) if p else ())
        return (found, least)

    def divided(self, row):
        """A row of polynomials without the known factors, and the fraction, that all of them have in common."""
        return plain_row(self.taken([self.parted(p) for p in row])[0])


def product_of(row, other):
    """The product of two pairs (p, exponents)."""
    return (times(row[0], other[0]), [a + b for a, b in zip(row[1], other[1])])


def plain_row(row):
    """A row without the fraction that all of it has in common."""
    common, scale = 0, 1
    for p in row:
        for _, f in p:
            common = gcd(common, f[0])
            scale = lcm(scale, f[1])
    if common == 0:
        return row
    return [scaled(p, reduced(scale, common)) for p in row]
