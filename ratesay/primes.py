"""Primes modulo which is reckoned."""

from math import isqrt

# The exponents of Mersenne primes: fractions with more digits ask for greater ones.
EXPONENTS = (61, 89, 107, 127, 521, 607, 1279, 2203, 2281, 3217, 4253, 4423, 9689, 9941, 11213, 19937, 21701, 44497)
# Little primes are looked for from here on; they are as many as are asked for.
LEAST = 1000000007
MOST_GREAT = 6


def great_primes(bits):
    """The list of the Mersenne primes told above with at least so many bits."""
    return [(1 << exponent) - 1 for exponent in EXPONENTS if exponent >= bits]


def divides_none(p, numbers):
    """Whether a prime divides no integer of some but 0."""
    for n in numbers:
        if n and n % p == 0:
            return False
    return True


def is_prime(n):
    """Whether an integer above 3 is a prime."""
    if n % 2 == 0:
        return False
    for k in range(3, isqrt(n) + 1, 2):
        if n % k == 0:
            return False
    return True


class Primes:
    """Tells one prime after the other, without an end: some great ones with at least so many bits go first."""

    def __init__(self, bits):
        self.great = great_primes(bits)[:MOST_GREAT]
        self.last = LEAST

    def another(self):
        """The next prime."""
        if self.great:
            return self.great.pop(0)
        self.last += 2
        while not is_prime(self.last):
            self.last += 2
        return self.last
