"""Judging the papers that a polynomial is not 0 at some solution of a system."""

from ratesay.forms import is_count
from ratesay.members import members_of
from ratesay.packing import sum_of_products
from ratesay.points import MOST_ORDER, are_inverses, is_inverse_at, start_table
from ratesay.polynomials import is_polynomial, times
from ratesay.rankings import places_of
from ratesay.simple import is_case

MOST_PAIRS = 3000


def is_short(value):
    """Whether any value is a polynomial of not too many pairs."""
    return is_polynomial(value) and len(value) <= MOST_PAIRS


def is_refusal(system, f, ranking, value):
    """Whether any value is a paper that f is not 0 at some solution of the system."""
    if type(value) is not tuple or len(value) != 4 or not is_case(value[0], ranking):
        return False
    case, start, homes, units = value
    for p in [*case[0], *case[1]]:
        if len(p) > MOST_PAIRS:
            return False
    places = places_of(ranking)
    members = members_of(case[0], places)
    table = start_table(members, case[1], places, start)
    if table is None or type(homes) is not tuple or len(homes) != len(system[0]):
        return False
    for p, row in zip(system[0], homes):
        if not is_identity(p, members, start[0], table, row):
            return False
    return are_inverses([*system[1], f], units, start[0], table)


def is_identity(p, members, tower, table, value):
    """Whether any value is a triple (s, rows, inverse) for an equation p."""
    if type(value) is not tuple or len(value) != 3 or not is_short(value[0]):
        return False
    s, rows, turn = value
    if not are_rows(rows, len(members)):
        return False
    pairs = []
    for i, j, c in rows:
        rate = members[i].rate_within(j, MOST_PAIRS)
        if rate is None:
            return False
        pairs.append((c, rate))
    return sum_of_products(pairs) == times(s, p) and is_inverse_at(s, turn, tower, table)


def are_rows(value, count):
    """Whether any value is a tuple of (i, j, c), ascending by (i, j), each once, for so many members."""
    if type(value) is not tuple:
        return False
    last = None
    for row in value:
        if type(row) is not tuple or len(row) != 3:
            return False
        i, j, c = row
        if not is_count(i, 0) or not is_count(j, 0) or i >= count or j > MOST_ORDER or not is_short(c) or not c:
            return False
        if last is not None and not last < (i, j):
            return False
        last = (i, j)
    return True
