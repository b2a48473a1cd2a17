"""Finding closed lists: polynomials whose functions are 0, and which tell each other's rates."""

from ratesay.errors import TooMany
from ratesay.explicits import along, letters_in, start_table, value_at
from ratesay.flows import Flow
from ratesay.linear import integer_row, kernel
from ratesay.monomials import combination, count_to, degree_of, monomials_to
from ratesay.multiples import multipliers_within
from ratesay.packing import sum_of_products
from ratesay.polynomials import (
    UNIT,
    as_number,
    coefficients,
    common_divisor,
    joined,
    less,
    letter,
    number,
    partial,
    plus,
    quotient,
    scaled,
)
from ratesay.ratios import ZERO

# Lists of more members, or of more pairs in all, are not looked for.
MOST_MEMBERS = 40
MOST_PAIRS = 3000
MOST_MONOMIALS = 130
MOST_DEGREE = 6


def quick_list(T, fs):
    """A closed list of a told system with some polynomials among its members, if one is found at once, or None."""
    for way in (resting_list, common_list, spanned_list):
        found = way(T, fs)
        if found is not None:
            return found
    return None


def closed_list(T, fs):
    """A closed list of a told system with some polynomials among its members, None if none is found."""
    found = quick_list(T, fs)
    if found is not None:
        return found
    for way in (divided_list, multiple_list, list_of_laws):
        found = way(T, fs)
        if found is not None:
            return found
    return None


def resting_list(T, fs):
    """The closed list of a told system whose functions are numbers."""
    g, c = T
    table = start_table(T)
    if [p for _, p in g if value_at(p, table) != ZERO] or [f for f in fs if value_at(f, table) != ZERO]:
        return None
    shifts = tuple([less(letter(name, 0), number(f)) for (name, _), f in zip(g, c)])
    slopes = [shifted_parts(p, table) for _, p in g]
    rows = []
    for f in fs:
        parts = [partial(f, v) for v in letters_in(g)]
        low = [sum_of_products([(part, row[k]) for part, row in zip(parts, slopes)]) for k in range(len(g))]
        rows.append((*[() for _ in fs], *low))
    for row in slopes:
        rows.append((*[() for _ in fs], *row))
    return ((*fs, *shifts), UNIT, tuple(rows))


def shifted_parts(p, table):
    """The list of polynomials a with p = the sum of all a (letter - its value), p being 0 at the values."""
    found = []
    rest = p
    for v in sorted(table):
        parts = coefficients(rest, v)
        # Horner's rule parts the polynomial by v less its value.
        row = []
        below = ()
        for c in reversed(parts):
            row.append(below)
            below = plus(scaled(below, table[v]), c)
        found.append(joined(tuple(reversed(row)), v))
        rest = below
    return found


def common_list(T, fs):
    """The closed list of polynomials that are multiples of one that divides its rate."""
    try:
        q = kept_divisor(T[0], fs)
    except TooMany:
        return None
    if as_number(q) is not None or value_at(q, start_table(T)) != ZERO:
        return None
    whole = (*fs, q) if q not in fs else tuple(fs)
    at = whole.index(q)
    rows = []
    for f in whole:
        factor = quotient(along(T[0], f), q)
        rows.append(tuple([factor if k == at else () for k in range(len(whole))]))
    return (whole, UNIT, tuple(rows))


def kept_divisor(g, fs):
    """The greatest polynomial that divides some polynomials, its rate along g, and so on."""
    q = ()
    for f in fs:
        q = common_divisor(q, f)
    while as_number(q) is None:
        low = common_divisor(q, along(g, q))
        if low == q:
            return q
        q = low
    return q


def spanned_list(T, fs):
    """The closed list in which the rates are sums of the members with numbers."""
    linear = max([degree_of(p) for _, p in T[0]]) < 2
    members = list(fs)
    k = 0
    while k < len(members):
        rate = along(T[0], members[k])
        if multipliers_within(rate, members, 0) is None:
            members.append(rate)
            if len(members) > (MOST_MEMBERS if linear else len(fs) + 6) or pairs_in(members) > MOST_PAIRS:
                return None
        k += 1
    return with_rows(T, members, 0)


def pairs_in(polynomials):
    """The number of the pairs of some polynomials."""
    return sum([len(p) for p in polynomials])


def with_rows(T, members, n):
    """The closed list of some members, with multipliers of degree at most n; None if there are none."""
    table = start_table(T)
    if [p for p in members if value_at(p, table) != ZERO]:
        return None
    rows = []
    for p in members:
        row = multipliers_within(along(T[0], p), members, n)
        if row is None:
            return None
        rows.append(row)
    return (tuple(members), UNIT, tuple(rows))


def divided_list(T, fs):
    """The closed list in which each rate is a multiple of one member, the further members being laws of low degree."""
    least = max([degree_of(f) for f in fs])
    for d in range(1, max(2, least) + 1):
        count = count_to(len(T[0]), d)
        if count > MOST_MONOMIALS:
            return None
        laws = law_space(T, d, count + 4)
        found = list_by_quotients(T, fs, laws) if laws else None
        if found is not None:
            return found
    return None


def list_by_quotients(T, fs, laws):
    """The closed list of some polynomials and some of some laws in which each rate is a multiple of one member."""
    members = list(fs)
    table = start_table(T)
    factors = []
    while len(factors) < len(members):
        p = members[len(factors)]
        rate = along(T[0], p)
        found = [(q, quotient(rate, q)) for q in [*members, *laws] if q]
        found = [row for row in found if row[1] is not None]
        if not found or value_at(p, table) != ZERO:
            return None
        if found[0][0] not in members:
            members.append(found[0][0])
        factors.append(found[0])
    rows = [tuple([factor if p == q else () for p in members]) for q, factor in factors]
    return (tuple(members), UNIT, tuple(rows))


def multiple_list(T, fs):
    """The closed list of some polynomials and their rates, the last of which are multiples of the others."""
    for n in range(1, MOST_DEGREE):
        members = list(fs)
        last = list(fs)
        for _ in range(n + 1):
            found = with_rows(T, members, n)
            if found is not None:
                return found
            last = [along(T[0], p) for p in last]
            members.extend([p for p in last if p and p not in members])
            if pairs_in(members) > MOST_PAIRS:
                return None
    return None


def law_space(T, d, top):
    """The base of the polynomials of degree at most d whose functions have no t to a power up to top."""
    monomials = monomials_to(letters_in(T[0]), d)
    return [combination(monomials, vector) for vector in kernel(series_rows(T, monomials, top), len(monomials))]


def series_rows(T, monomials, top):
    """The rows of the coefficients of the functions of monomials at t to the powers from 0 to top."""
    flow = Flow(T)
    flow.reach(top)
    rows = []
    for k in range(top + 1):
        rows.append(integer_row({column: flow.part(monomial, k) for column, monomial in enumerate(monomials)}))
    return rows


def list_of_laws(T, fs):
    """The closed list of some polynomials and all laws of some degree."""
    least = max([degree_of(f) for f in fs])
    slope = max([degree_of(p) for _, p in T[0]])
    for d in range(least, least + 4):
        count = count_to(len(T[0]), d)
        if count > MOST_MONOMIALS:
            return None
        base = [p for p in law_space(T, d, count + 4) if p not in fs]
        found = with_rows(T, [*fs, *base], max(0, slope - 1))
        if found is not None:
            return found
    return None
