"""Polynomials as sums of multiples of others, the multipliers being of bounded degree."""

from ratesay.errors import TooMany
from ratesay.linear import TARGET, integer_row, solution
from ratesay.monomials import count_to, monomials_to
from ratesay.polynomials import letters_of, times
from ratesay.ratios import ONE

# About as many steps of an elimination as take half a minute.
MOST_STEPS = 100000000
MOST_CELLS = 400000


def letters_among(polynomials):
    """The letters of some polynomials, ascending."""
    seen = {}
    for p in polynomials:
        for v in letters_of(p):
            seen[v] = True
    return sorted(seen)


def multipliers_of(f, rows, n):
    """The tuple of multipliers, of degree at most n, that make f a sum of multiples of rows; None if there are none."""
    letters = letters_among([f, *rows])
    used = [k for k, p in enumerate(rows) if p]
    count = count_to(len(letters), n)
    if count * sum([len(p) for p in rows]) > MOST_CELLS:
        raise TooMany()
    monomials = monomials_to(letters, n)
    table = {monomial: {TARGET: worth} for monomial, worth in f}
    columns = []
    for monomial in monomials:
        for k in used:
            for other, worth in times(((monomial, ONE),), rows[k]):
                table.setdefault(other, {})[len(columns)] = worth
            columns.append((k, monomial))
    few, many = sorted([len(table), len(columns)])
    if few * few * many > MOST_STEPS:
        raise TooMany()
    found = solution([integer_row(row) for row in table.values()])
    if found is None:
        return None
    parts = [{} for _ in rows]
    for column, worth in found.items():
        k, monomial = columns[column]
        parts[k][monomial] = worth
    return tuple([tuple(sorted(list(part.items()))) for part in parts])


def multipliers_within(f, rows, n):
    """multipliers_of, None where that would be too great."""
    try:
        return multipliers_of(f, rows, n)
    except TooMany:
        return None
