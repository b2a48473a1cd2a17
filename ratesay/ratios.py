"""Fractions as pairs (n, d) of integers in lowest terms, d at least 1; and powers of integers."""

from math import gcd

ZERO = (0, 1)
ONE = (1, 1)


def reduced(n, d):
    """The fraction n / d, d at least 1, in lowest terms."""
    if d == 1:
        return (n, 1)
    common = gcd(n, d)
    return (n // common, d // common)


def added(f, g):
    """The sum of two fractions."""
    if f[1] == g[1]:
        return reduced(f[0] + g[0], f[1])
    return reduced(f[0] * g[1] + g[0] * f[1], f[1] * g[1])


def multiplied(f, g):
    """The product of two fractions."""
    return reduced(f[0] * g[0], f[1] * g[1])


def negated(f):
    """The fraction with the other sign."""
    return (-f[0], f[1])


def inverted(f):
    """1 / f for a fraction f other than 0."""
    if f[0] < 0:
        return (-f[1], -f[0])
    return (f[1], f[0])


def summed(pairs):
    """The sum in lowest terms of a list, not empty, of pairs (n, d) that need not be in lowest terms."""
    # Adding in a tree keeps most denominators small.
    rest = pairs
    while len(rest) > 1:
        found = [added(rest[k], rest[k + 1]) for k in range(0, len(rest) - 1, 2)]
        if len(rest) & 1:
            found.append(rest[-1])
        rest = found
    return reduced(rest[0][0], rest[0][1])


def integer_power(base, e):
    """The integer base to the power e, e from 0 on."""
    found = 1
    square = base
    left = e
    while left:
        if left & 1:
            found = found * square
        left = left >> 1
        if left:
            square = square * square
    return found


def capped_power(base, e, cap):
    """base to the power e, for base and e from 0 on; some integer above cap if that is above cap."""
    if e == 0:
        return 1
    if base <= 1:
        return base
    found = 1
    for _ in range(e):
        found = found * base
        if found > cap:
            return found
    return found
