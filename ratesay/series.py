"""Series that begin at a start of a case: how many rates are needed, the rates themselves, and judging them."""

from math import factorial

from ratesay.courses import extend, highest_orders, parts_along, raise_lengths
from ratesay.errors import BadNumber, BadPolynomial, BadRates, BadStart, BadTower, TooGreat
from ratesay.forms import is_count, is_name, is_pair
from ratesay.members import orders_of
from ratesay.points import is_course_zero, start_table
from ratesay.polynomials import is_polynomial, scaled
from ratesay.simple import looked_at_case
from ratesay.tower_numbers import is_number_in, is_tower_value

MOST_ORDER = 24
MOST_LENGTH = 40
MOST_NUMBERS = 41


def looked_at_start(case, ranking, start):
    """The triple (members, places, lists of values) of a case and a start of it, when they have been looked at."""
    members, places = looked_at_case(case, ranking)
    table = start_table(members, case[1], places, start)
    if table is None:
        raise BadStart()
    return (members, places, table)


def check_number(n):
    """BadNumber if a value is no integer from 0 to 24."""
    if not is_count(n, 0) or n > MOST_ORDER:
        raise BadNumber(n)


def are_numbers(value, tower, most):
    """Whether any value is a tuple of numbers of a tower, at least one and at most so many."""
    if type(value) is not tuple or not 1 <= len(value) <= most:
        return False
    for u in value:
        if not is_number_in(tower, u):
            return False
    return True


def is_table(value, tower, most):
    """Whether any value is a tuple of (name, numbers), the names ascending and distinct."""
    if type(value) is not tuple:
        return False
    last = None
    for row in value:
        if not is_pair(row) or not is_name(row[0]) or not are_numbers(row[1], tower, most):
            return False
        if last is not None and not last < row[0]:
            return False
        last = row[0]
    return True


def checked_free(free, members, places, tower):
    """The dict of free rates; BadRates if they are none."""
    if not is_table(free, tower, MOST_LENGTH):
        raise BadRates()
    orders = orders_of(members)
    for name, _ in free:
        if name not in places or name in orders:
            raise BadRates()
    return {name: numbers for name, numbers in free}


def needed(members, table, n):
    """The dict of the lengths of the names."""
    found = {name: max(n, len(numbers) - 1) for name, numbers in table.items()}
    raise_lengths(found, members)
    return found


def check_lengths(found):
    """TooGreat if a length is above 40."""
    for name in found:
        if found[name] > MOST_LENGTH:
            raise TooGreat("orders")


def lengths(case, ranking, start, n):
    """The tuple of (name, length): how far the rates are needed to tell the n-th ones."""
    members, _, table = looked_at_start(case, ranking, start)
    check_number(n)
    found = needed(members, table, n)
    check_lengths(found)
    return tuple([(name, found[name]) for name in sorted(found)])


def rates_of(case, ranking, start, free, n):
    """The rows of rates that a start and free rates tell, with the lengths for n."""
    members, places, table = looked_at_start(case, ranking, start)
    told = checked_free(free, members, places, start[0])
    check_number(n)
    found = needed(members, table, n)
    check_lengths(found)
    values = {}
    for name, numbers in table.items():
        whole = [*numbers, *told.get(name, ())]
        values[name] = whole[:found[name] + 1]
    extend(members, start[2], start[0], values, found, places)
    return tuple([(name, tuple(values[name])) for name in sorted(values)])


def are_rates(case, ranking, start, free, rows):
    """Whether any value is right rows of rates for a start and free rates."""
    members, places, table = looked_at_start(case, ranking, start)
    told = checked_free(free, members, places, start[0])
    if not is_table(rows, start[0], MOST_NUMBERS) or [name for name, _ in rows] != sorted(places):
        return False
    orders = orders_of(members)
    for name, numbers in rows:
        begin = [*table[name], *told.get(name, ())]
        if len(numbers) < len(table[name]) or list(numbers[:len(begin)]) != begin[:len(numbers)]:
            return False
        if name not in orders and [u for u in numbers[len(begin):] if u]:
            return False
    values = {name: list(numbers) for name, numbers in rows}
    for member in members:
        if not is_course_zero(member, start[0], values):
            return False
    return True


def along(p, tower, rows, n):
    """The tuple of the values of p and its rates up to the n-th along rows of rates."""
    if not is_polynomial(p):
        raise BadPolynomial()
    if not is_tower_value(tower):
        raise BadTower()
    if not is_table(rows, tower, MOST_NUMBERS):
        raise BadRates()
    check_number(n)
    values = {name: list(numbers) for name, numbers in rows}
    for name, e in highest_orders(p).items():
        if name not in values or e + n >= len(values[name]):
            raise BadRates()
    found = parts_along(p, tower, values, n)
    return tuple([scaled(u, (factorial(j), 1)) for j, u in enumerate(found)])


def taylor(numbers):
    """The tuple of the numbers, each divided by the factorial of its place."""
    if type(numbers) is not tuple or not 1 <= len(numbers) <= MOST_NUMBERS:
        raise BadRates()
    for u in numbers:
        if not is_polynomial(u):
            raise BadRates()
    return tuple([scaled(u, (1, factorial(k))) for k, u in enumerate(numbers)])
