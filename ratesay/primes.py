"""Primes modulo which is reckoned."""

from math import isqrt

# Pairs (e, k) with primes 2^e - k, all of the form 4 n + 3: fractions with more digits ask for greater ones.
GREAT = (
    (61, 1), (89, 1), (107, 1), (127, 1), (192, 237), (256, 189), (384, 317), (521, 1), (607, 1), (1279, 1), (2203, 1),
    (2281, 1), (3217, 1), (4253, 1), (4423, 1), (9689, 1), (9941, 1), (11213, 1), (19937, 1), (21701, 1), (44497, 1),
)
# Little primes are looked for from here on; they are as many as are asked for.
LEAST = 1000000007
MOST_GREAT = 6


def great_primes(bits):
    """The list of the primes told above with at least so many bits."""
    return [(1 << e) - k for e, k in GREAT if e >= bits]


def divides_none(p, numbers):
    """Whether a prime divides no integer of some but 0."""
    for n in numbers:
        if n and n % p == 0:
            return False
    return True


def is_prime(n):
    """Whether an integer above 3 is a prime."""
    if n % 2 == 0:
        return False
    for k in range(3, isqrt(n) + 1, 2):
        if n % k == 0:
            return False
    return True


class Primes:
    """Tells one prime after the other, without an end: some great ones with at least so many bits go first."""

    def __init__(self, bits):
        self.great = great_primes(bits)[:MOST_GREAT]
        self.last = LEAST

    def another(self):
        """The next prime."""
        if self.great:
            return self.great.pop(0)
        self.last += 2
        while not is_prime(self.last):
            self.last += 2
        return self.last
