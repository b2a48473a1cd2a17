"""The forms of integers, names and fractions, asked of values of any kind."""

from math import gcd

SMALL = "abcdefghijklmnopqrstuvwxyz"
DIGITS = "0123456789"
LONGEST_NAME = 8


def is_integer(value):
    """Whether the value is an integer; True and False are none."""
    return type(value) is int


def is_count(value, least):
    """Whether the value is an integer from least on."""
    return type(value) is int and value >= least


def is_pair(value):
    """Whether the value is a tuple of two."""
    return type(value) is tuple and len(value) == 2


def is_name(value):
    """Whether the value is a name."""
    if type(value) is not str or not 1 <= len(value) <= LONGEST_NAME:
        return False
    if value[0] not in SMALL:
        return False
    for sign in value:
        if sign not in SMALL and sign not in DIGITS:
            return False
    return True


def is_fraction(value):
    """Whether the value is a fraction in lowest terms."""
    if not is_pair(value):
        return False
    n, d = value
    return is_integer(n) and is_count(d, 1) and gcd(n, d) == 1
