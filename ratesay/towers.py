"""Towers of roots, their numbers, and where a number is 0."""

from ratesay.errors import BadPolynomial, BadTower, NotSquareFree
from ratesay.polynomials import UNIT, is_polynomial
from ratesay.tower_numbers import (
    first_multiple,
    is_number_in,
    is_rooted,
    is_tower_value,
    parts,
    product,
    rest,
    tower_degree,
)


def is_tower(value):
    """Whether any value is a tower."""
    return is_tower_value(value)


def check_tower(tower):
    """BadTower if a value is no tower."""
    if not is_tower_value(tower):
        raise BadTower()


def check_number(tower, u):
    """BadPolynomial if a value is no number of the tower."""
    if not is_number_in(tower, u):
        raise BadPolynomial()


def degree_of(tower):
    """The product of the degrees of the members in their own root letters."""
    check_tower(tower)
    return tower_degree(tower)


def rest_of(tower, p):
    """The number of the tower that p comes to."""
    check_tower(tower)
    if not is_polynomial(p) or not is_rooted(p, len(tower)):
        raise BadPolynomial()
    return rest(tower, p)


def product_in(tower, u, v):
    """The product of two numbers."""
    check_tower(tower)
    check_number(tower, u)
    check_number(tower, v)
    return product(tower, u, v)


def is_inverse(tower, u, v):
    """Whether the product of two numbers is 1."""
    return product_in(tower, u, v) == UNIT


def parts_of(tower, u):
    """The tuple of (tower_k, inverse of u there, or None where u is 0) for a square-free tower."""
    check_tower(tower)
    place = first_multiple(tower)
    if place is not None:
        raise NotSquareFree(place)
    check_number(tower, u)
    return tuple(parts(tower, u))
