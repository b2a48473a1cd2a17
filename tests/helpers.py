"""What several tests use: texts as polynomials, values of wrong kinds, random polynomials, values at points."""

import random
from fractions import Fraction
from math import gcd

from ratesay.texts import read


def polys(*texts):
    """The tuple of the polynomials of texts."""
    return tuple(read(text) for text in texts)


def system(equations, inequations=()):
    """The system of two tuples of texts."""
    return (polys(*equations), polys(*inequations))


# Values that are no polynomials, of many kinds; some of them look like one.
NO_POLYNOMIALS = [
    None,
    True,
    False,
    0,
    1,
    "",
    "x",
    [],
    [((), (1, 1))],
    ((),),
    (1,),
    (((), (0, 1)),),
    (((), (2, 2)),),
    (((), (1, 0)),),
    (((), (1, -1)),),
    (((), (True, 1)),),
    (((), (1, True)),),
    (((), [1, 1]),),
    (((), (1, 1, 1)),),
    (((), 1),),
    ([(), (1, 1)],),
    (((), (1, 1)), ((), (1, 1))),
    ((((("x", 0), 1),), (1, 1)), ((), (1, 1))),
    ((((("x", 0), 0),), (1, 1)),),
    ((((("x", 0), True),), (1, 1)),),
    ((((("x", True), 1),), (1, 1)),),
    ((((("x", -1), 1),), (1, 1)),),
    ((((("X", 0), 1),), (1, 1)),),
    (((((1, 0), 1),), (1, 1)),),
    ((((["x", 0], 1),), (1, 1)),),
    (((("x", 1),), (1, 1)),),
    ((((("x", 0), 1), (("x", 0), 1)), (1, 1)),),
    ((((("y", 0), 1), (("x", 0), 1)), (1, 1)),),
    (([(("x", 0), 1)], (1, 1)),),
]

# Values of all kinds that are no tuples of something, or wrong inside.
ANYTHING = [None, True, False, 0, 1, -1, 5, "", "x", "rate", (), [], [1], (1,), ((),), ([],), (None,), ("x",), ((), ())]
ANYTHING.extend([((), (), ()), ("rate",), ("sum", ()), ("x", 0), (("x", 0),), [[]], [()], (True, False)])


def fraction(n, d=1):
    """n / d in lowest terms."""
    common = gcd(n, d)
    return (n // common, d // common)


def random_fraction(rng, most=9, whole=False):
    """A fraction other than 0."""
    return fraction(rng.choice([-1, 1]) * rng.randint(1, most), 1 if whole else rng.randint(1, most))


def random_polynomial(rng, letters, degree, pairs, most=9, whole=False):
    """A polynomial with at most so many pairs."""
    table = {}
    for _ in range(pairs):
        exponents = {}
        for _ in range(rng.randint(0, degree)):
            v = rng.choice(letters)
            exponents[v] = exponents.get(v, 0) + 1
        table[tuple(sorted(exponents.items()))] = random_fraction(rng, most, whole)
    return tuple(sorted(table.items()))


def value(p, point):
    """The value of a polynomial, a Fraction, where a dict tells the letters' values."""
    found = Fraction(0)
    for monomial, (n, d) in p:
        term = Fraction(n, d)
        for v, e in monomial:
            term *= point[v] ** e
        found += term
    return found


def random_point(rng, letters):
    """Values of letters."""
    return {v: Fraction(rng.randint(-30, 30), rng.randint(1, 7)) for v in letters}


LETTERS = [("x", 0), ("y", 0), ("z", 0), ("x", 1), ("a", 3)]


def rng_of(seed):
    """A source of numbers that is the same in each run."""
    return random.Random(seed)
