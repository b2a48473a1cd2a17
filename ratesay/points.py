"""Starts of cases: judging them, and the values that they tell."""

from ratesay.courses import Course, extend, highest_orders, raise_lengths, value_of
from ratesay.forms import is_pair
from ratesay.polynomials import UNIT, is_letter, letters_of
from ratesay.tower_numbers import is_number_in, is_tower_value, product, tower_degree

MOST_MEMBERS = 6
MOST_DEGREE = 64
MOST_ORDER = 24


def is_small_tower(value):
    """Whether any value is a tower within the bounds."""
    if not is_tower_value(value) or len(value) > MOST_MEMBERS:
        return False
    return tower_degree(value) <= MOST_DEGREE


def values_table(tower, value, names):
    """The dict from names to the lists of their values, or None if any value tells no such lists for the names."""
    if type(value) is not tuple:
        return None
    table = {}
    last = None
    for pair in value:
        if not is_pair(pair) or not is_letter(pair[0]) or not is_number_in(tower, pair[1]):
            return None
        v = pair[0]
        if last is not None and not last < v:
            return None
        last = v
        numbers = table.setdefault(v[0], [])
        if v[1] != len(numbers) or v[1] > MOST_ORDER:
            return None
        numbers.append(pair[1])
    if sorted(table) != sorted(names):
        return None
    return table


def has_values(p, table):
    """Whether all letters of p have values."""
    for name, order in highest_orders(p).items():
        if name not in table or order >= len(table[name]):
            return False
    return True


def is_course_zero(member, tower, table):
    """Whether the member and its rates, as far as the values of its leader go, have values, and these are 0."""
    name, order = member.leader
    spare = len(table[name]) - 1 - order
    for other, e in highest_orders(member.p).items():
        if e + spare >= len(table[other]):
            return False
    course = Course(member.p, tower, table)
    for j in range(spare + 1):
        if course.part(j):
            return False
        course.keep(j)
    return True


def are_inverses(polynomials, numbers, tower, table):
    """Whether any value is the tuple of the inverses of the values of some polynomials."""
    if type(numbers) is not tuple or len(numbers) != len(polynomials):
        return False
    for p, turn in zip(polynomials, numbers):
        if not is_inverse_at(p, turn, tower, table):
            return False
    return True


def is_inverse_at(p, turn, tower, table):
    """Whether all letters of p have values, and any value is the inverse of that of p."""
    if not has_values(p, table) or not is_number_in(tower, turn):
        return False
    return product(tower, value_of(p, tower, table), turn) == UNIT


def start_table(members, inequations, names, value):
    """The dict from names to the lists of values of any value that is a start of a case; None if it is none."""
    if type(value) is not tuple or len(value) != 4 or not is_small_tower(value[0]):
        return None
    tower, values, separants, turns = value
    table = values_table(tower, values, names)
    if table is None:
        return None
    for p in [*[member.p for member in members], *inequations]:
        if not has_values(p, table):
            return None
    for member in members:
        if not is_course_zero(member, tower, table):
            return None
    if not are_inverses([member.separant for member in members], separants, tower, table):
        return None
    if not are_inverses(inequations, turns, tower, table):
        return None
    return table


def extended_table(members, places, start, table, polynomials):
    """The lists of values, put on as far as the letters of some polynomials ask."""
    found = {name: list(numbers) for name, numbers in table.items()}
    lengths = {name: len(numbers) - 1 for name, numbers in table.items()}
    for p in polynomials:
        for name, k in letters_of(p):
            lengths[name] = max(k, lengths[name])
    raise_lengths(lengths, members)
    extend(members, start[2], start[0], found, lengths, places)
    return found
