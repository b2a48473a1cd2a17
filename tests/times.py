"""Functions of the time: tuples of fractions, and which systems they solve."""

from fractions import Fraction

from tests.helpers import fraction


def told(row):
    """The coefficients of a list of integers or Fractions as the document writes them."""
    rows = [Fraction(c) for c in row]
    while rows and rows[-1] == 0:
        rows.pop()
    return tuple((c.numerator, c.denominator) for c in rows)


def planted(**functions):
    """Planted functions, each told by a list."""
    return tuple((name, told(functions[name])) for name in sorted(functions))


def product(a, b):
    """The product of lists of Fractions."""
    found = [Fraction(0)] * max(0, len(a) + len(b) - 1)
    for i, x in enumerate(a):
        for j, y in enumerate(b):
            found[i + j] += x * y
    return found


def at(p, functions):
    """The coefficients of a polynomial at planted functions, without zeros at the end."""
    table = {name: [Fraction(n, d) for n, d in row] for name, row in functions}
    total = [Fraction(0)] * 400
    for monomial, (n, d) in p:
        row = [Fraction(n, d)]
        for (name, k), e in monomial:
            high = table[name]
            for _ in range(k):
                high = [i * c for i, c in enumerate(high)][1:]
            for _ in range(e):
                row = product(row, high)
        for i, c in enumerate(row):
            total[i] += c
    while total and total[-1] == 0:
        total.pop()
    return total


def solves(pair, functions):
    """Whether planted functions solve a pair (P, Q)."""
    return not any(at(p, functions) for p in pair[0]) and all(at(q, functions) for q in pair[1])


def random_functions(rng, names, most=2):
    """Planted functions of some names, of small degree."""
    rows = {}
    for name in names:
        rows[name] = [fraction(rng.randint(-3, 3), 1)[0] for _ in range(rng.randint(0, most + 1))]
    return planted(**rows)
