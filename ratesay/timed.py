"""Functions told by explicit equations and a start: their series, and which are 0 for all times."""

from ratesay.closing import closed_list, quick_list
from ratesay.errors import BadPolynomial, TooMany
from ratesay.explicits import (
    along,
    check_explicit,
    check_own,
    check_to,
    check_told,
    is_explicit_system,
    is_own,
    is_start_for,
    names_in,
    start_table,
    value_at,
)
from ratesay.flows import Flow, ModularFlow
from ratesay.forms import is_count, is_pair
from ratesay.monomials import count_to
from ratesay.multiples import multipliers_of, multipliers_within
from ratesay.packing import sum_of_products
from ratesay.polynomials import UNIT, is_polynomial, less, times
from ratesay.primes import great_primes
from ratesay.ratios import ZERO

MOST_RATES = 12
MOST_POWER = 24
MOST_ORDER = 40
# Most functions that are not 0 have an order up to this.
EARLY_ORDER = 10
BITS = 127
# What is not 0 up to this order is looked through in vain for a closed list.
FURTHEST_ORDER = 80
MOST_PAIRS = 3000
MOST_MEMBERS = 3
MOST_DEGREE = 8
# Multipliers of safe starts are looked for up to this degree, as long as they have not more unknown coefficients.
MOST_FACTOR = 6
MOST_UNKNOWN = 600


def is_explicit(value):
    """Whether any value is an explicit system."""
    return is_explicit_system(value)


def is_told(value):
    """Whether any value is a told system."""
    return is_pair(value) and is_explicit_system(value[0]) and is_start_for(value[0], value[1])


def rate_along(g, f):
    """The rate of an own polynomial along an explicit system."""
    check_explicit(g)
    check_own(g, f)
    return along(g, f)


def rates_along(g, f, n):
    """The tuple of an own polynomial and its rates along an explicit system, up to the n-th."""
    check_explicit(g)
    check_own(g, f)
    check_to(n, 0, MOST_RATES)
    found = [f]
    for _ in range(n):
        found.append(along(g, found[-1]))
    return tuple(found)


def coefficients_of(T, f, n):
    """The tuple of the coefficients of a function at t to the powers from 0 to n."""
    check_told(T)
    check_own(T[0], f)
    check_to(n, 0, MOST_POWER)
    flow = Flow(T)
    flow.reach(n)
    return tuple([flow.coefficient(f, k) for k in range(n + 1)])


def are_own(names, value):
    """Whether any value is a tuple of own polynomials."""
    if type(value) is not tuple:
        return False
    for p in value:
        if not is_own(names, p):
            return False
    return True


def has_closed_form(T, value):
    """Whether any value is a triple (F, d, M) with the form of a closed list."""
    names = names_in(T[0])
    if type(value) is not tuple or len(value) != 3 or not are_own(names, value[0]) or not value[0]:
        return False
    members, divisor, rows = value
    if not is_own(names, divisor) or type(rows) is not tuple or len(rows) != len(members):
        return False
    for row in rows:
        if not are_own(names, row) or len(row) != len(members):
            return False
    return True


def is_closed_list(T, value):
    """Whether any value is a closed list of what surely is a told system."""
    if not has_closed_form(T, value):
        return False
    members, divisor, rows = value
    table = start_table(T)
    if value_at(divisor, table) == ZERO or [p for p in members if value_at(p, table) != ZERO]:
        return False
    for p, row in zip(members, rows):
        if times(divisor, along(T[0], p)) != sum_of_products(list(zip(row, members))):
            return False
    return True


def is_closed(T, value):
    """Whether any value is a closed list of a told system."""
    check_told(T)
    return is_closed_list(T, value)


def is_seen(T, f):
    """Whether the function of an own polynomial is seen not to be 0, modulo a prime; False tells nothing."""
    try:
        flow = ModularFlow(T, great_primes(BITS)[0])
        rows = flow.residues(f)
    except TooMany:
        # The prime divides what is divided by.
        return False
    for k in range(FURTHEST_ORDER + 1):
        flow.reach(k)
        if sum([n * flow.part(monomial, k) for monomial, n in rows]) % flow.p:
            return True
    return False


def early_paper(T, f):
    """A paper whether the function of an own polynomial is 0, if one is found at once, or None."""
    k = Flow(T).first_of(f, EARLY_ORDER)
    if k is not None:
        return ("order", k)
    if not f:
        return ("zero", ((),), UNIT, (((),),))
    found = None if is_seen(T, f) else quick_list(T, (f,))
    return None if found is None else ("zero", *found)


def zero_paper(T, f):
    """A paper whether the function of an own polynomial is 0."""
    found = early_paper(T, f)
    return later_paper(T, f) if found is None else found


def later_paper(T, f):
    """A paper whether the function of an own polynomial is 0, if none is found at once."""
    flow = Flow(T)
    k = flow.first_of(f, MOST_ORDER)
    if k is not None:
        return ("order", k)
    if flow.first_of(f, FURTHEST_ORDER) is not None:
        raise TooMany()
    found = closed_list(T, (f,))
    if found is None:
        raise TooMany()
    return ("zero", *found)


def decide_zero(T, f):
    """A paper whether the function of an own polynomial is 0 for all times."""
    check_told(T)
    check_own(T[0], f)
    return zero_paper(T, f)


def is_zero_paper(T, f, value):
    """Whether any value is a paper whether the function of an own polynomial is 0."""
    check_told(T)
    check_own(T[0], f)
    if type(value) is not tuple or not value or type(value[0]) is not str:
        return False
    if value[0] == "zero" and len(value) == 4:
        return is_closed_list(T, value[1:]) and f in value[1]
    if value[0] != "order" or len(value) != 2 or not is_count(value[1], 0) or value[1] > MOST_ORDER:
        return False
    return Flow(T).first_of(f, value[1]) == value[1]


def order_of(T, f):
    """The order of the function of an own polynomial, None if it is 0 for all times."""
    check_told(T)
    check_own(T[0], f)
    found = zero_paper(T, f)
    return found[1] if found[0] == "order" else None


def is_same(T, f, h):
    """Whether two own polynomials have the same function."""
    check_told(T)
    check_own(T[0], f)
    check_own(T[0], h)
    f = less(f, h)
    found = early_paper(T, f)
    if found is not None:
        return found[0] == "zero"
    if Flow(T).first_of(f, FURTHEST_ORDER) is not None:
        return False
    return later_paper(T, f)[0] == "zero"


def check_members(g, ps):
    """BadPolynomial if a value is no tuple of 1 to 3 own polynomials."""
    if not are_own(names_in(g), ps) or not 1 <= len(ps) <= MOST_MEMBERS:
        raise BadPolynomial()


def safe_starts(g, ps):
    """A paper that tells the safe starts of own polynomials."""
    check_explicit(g)
    check_members(g, ps)
    sizes = []
    for top in range(MOST_RATES + 1):
        for n in range(MOST_FACTOR + 1):
            sizes.append(((top + 1) * len(ps) * count_to(len(g), n), top, n))
    sizes = [row for row in sizes if row[0] <= MOST_UNKNOWN]
    table = [[p] for p in ps]
    for _, top, n in sorted(sizes):
        if not are_rates_short(g, table, top + 1):
            continue
        places = [(j, k) for j in range(len(ps)) for k in range(top + 1)]
        rows = [row_of(table[i][top + 1], [table[j][k] for j, k in places], places, n) for i in range(len(ps))]
        if None not in rows:
            return (top, tuple(rows))
    raise TooMany()


def are_rates_short(g, table, top):
    """Whether the rates of some lists up to the top-th, which are put behind them, have not too many pairs."""
    for row in table:
        while len(row) <= top:
            if len(row[-1]) > MOST_PAIRS:
                return False
            row.append(along(g, row[-1]))
        if max([len(p) for p in row[:top + 1]]) > MOST_PAIRS:
            return False
    return True


def row_of(f, polynomials, places, n):
    """The row of the multipliers, other than 0, that make f a sum of multiples of others; None if none is found."""
    found = multipliers_within(f, polynomials, n)
    if found is None:
        return None
    return tuple([(j, k, a) for (j, k), a in zip(places, found) if a])


def is_safe_row(names, count, top, value):
    """Whether any value is a tuple of (j, k, a), ascending by (j, k), each once."""
    if type(value) is not tuple:
        return False
    last = None
    for row in value:
        if type(row) is not tuple or len(row) != 3:
            return False
        j, k, a = row
        if not is_count(j, 0) or not is_count(k, 0) or j >= count or k > top or not is_own(names, a) or not a:
            return False
        if last is not None and not last < (j, k):
            return False
        last = (j, k)
    return True


def is_safe_paper(g, ps, value):
    """Whether any value is a paper that tells the safe starts of own polynomials."""
    check_explicit(g)
    check_members(g, ps)
    if not is_pair(value) or not is_count(value[0], 0) or value[0] > MOST_RATES:
        return False
    top, rows = value
    if type(rows) is not tuple or len(rows) != len(ps):
        return False
    for row in rows:
        if not is_safe_row(names_in(g), len(ps), top, row):
            return False
    table = [[p] for p in ps]
    if not are_rates_short(g, table, top + 1):
        return False
    for i, row in enumerate(rows):
        if sum_of_products([(a, table[j][k]) for j, k, a in row]) != table[i][top + 1]:
            return False
    return True


def multipliers(f, rows, n):
    """The multipliers, of degree at most n, that make f a sum of multiples of rows; None if there are none."""
    if not is_polynomial(f) or type(rows) is not tuple:
        raise BadPolynomial()
    for p in rows:
        if not is_polynomial(p):
            raise BadPolynomial()
    check_to(n, 0, MOST_DEGREE)
    return multipliers_of(f, rows, n)
