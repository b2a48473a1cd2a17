"""Greatest common divisors of polynomials with integer coefficients, in the packed form.

A table is a dict from packed monomials to integers other than 0.
"""

from math import gcd

from ratesay.dividing import divided_integers, fields_of, room_for
from ratesay.errors import TooMany
from ratesay.images import common_degree, image
from ratesay.packing import Frame, common_content, integer_product

# The evaluated polynomials of the quick way have at most about this many bits.
MOST_BITS = 1500000
TRIES = 6
# The slow way gives up beyond this many terms.
MOST_TERMS = 20000
# Remainders have higher degrees than what they begin with.
SPARE_BITS = 16


def plain(table):
    """The pair of the content of a table, above 0, and the table without it."""
    content = common_content(list(table.items()))
    if content == 1:
        return (1, table)
    return (content, {key: n // content for key, n in table.items()})


def quotient_table(frame, table, divisor):
    """The table of the exact quotient, or None."""
    rows, others = list(table.items()), list(divisor.items())
    room = room_for(frame, rows, others)
    if room is None:
        return None
    return divided_integers(rows, others, frame.guards(), room)


def product_table(table, other):
    """The product of two tables."""
    found = integer_product(list(table.items()), list(other.items()))
    return {key: n for key, n in found.items() if n}


def parts_by(frame, table, field):
    """The coefficients of a table by the letter of a field: a dict from exponents to tables."""
    shift = field * frame.width
    parts = {}
    for key, n in table.items():
        e = (key >> shift) & frame.mask
        if e not in parts:
            parts[e] = {}
        parts[e][key - (e << shift)] = n
    return parts


def parts_beside(table, mask):
    """The list of the coefficients of a table by the letters whose fields are in the mask."""
    parts = {}
    for key, n in table.items():
        at = key & mask
        if at not in parts:
            parts[at] = {}
        parts[at][key - at] = n
    return list(parts.values())


def common_table(frame, table, other):
    """The greatest common divisor of two tables that are not empty, its content included."""
    left, p = plain(table)
    right, q = plain(other)
    content = gcd(left, right)
    low, p, q = without_monomials(frame, p, q)
    found = common_primitive(frame, p, q)
    return {key + low: n * content for key, n in found.items()}


def without_monomials(frame, p, q):
    """The packed greatest common monomial of both, and both without the monomials that divide them."""
    a, b = lowest(frame, p), lowest(frame, q)
    common = 0
    for k in range(len(frame.letters)):
        shift = k * frame.width
        common += min((a >> shift) & frame.mask, (b >> shift) & frame.mask) << shift
    return (common, {key - a: n for key, n in p.items()}, {key - b: n for key, n in q.items()})


def lowest(frame, table):
    """The packed greatest monomial that divides each pair of the table."""
    least = None
    for key in table:
        if least is None:
            least = {at: e for at, e in frame.fields(key)}
        else:
            here = {at: e for at, e in frame.fields(key)}
            least = {at: min(e, here[at]) for at, e in least.items() if at in here}
    found = 0
    for at, e in least.items():
        found += e << (at * frame.width)
    return found


def common_primitive(frame, p, q):
    """The greatest common divisor of two tables without content."""
    if len(p) == 1 or len(q) == 1:
        # No monomial but 1 divides a table that has lost its monomials.
        return {0: 1}
    rows, others = list(p.items()), list(q.items())
    first, second = fields_of(frame, rows), fields_of(frame, others)
    shared = []
    away = 0
    for k, top in enumerate(first):
        if top and second[k] and not surely_free(frame, rows, others, k, top):
            shared.append(k)
        elif top or second[k]:
            away += frame.mask << (k * frame.width)
    if away:
        # The common divisors lack these letters, so they divide each coefficient by them.
        return common_of_all(frame, parts_beside(p, away) + parts_beside(q, away))
    if not shared:
        return {0: 1}
    found = by_values(frame, p, q, len(frame.letters))
    if found is None:
        field = min([(min(first[k], second[k]), k) for k in shared])[1]
        wide = Frame(frame.letters, 1 << (frame.width + SPARE_BITS))
        found = by_remainders(wide, moved_table(frame, wide, p), moved_table(frame, wide, q), field)
        found = moved_table(wide, frame, found)
    return plain(found)[1]


def moved_table(frame, other, table):
    """The table of one frame packed for another frame."""
    found = {}
    for key, n in table.items():
        at = 0
        for k, e in frame.fields(key):
            at += e << (k * other.width)
        found[at] = n
    return found


def surely_free(frame, rows, others, field, top):
    """True only if no common divisor has the letter of the field; top is its degree in rows."""
    a, b = image(frame, rows, field), image(frame, others, field)
    if a is None or b is None or len(a) != top + 1:
        return False
    return common_degree(a, b) == 0


def common_of_all(frame, tables):
    """The greatest common divisor of a list of tables, not empty, without its content."""
    ordered = sorted(tables, key=len)
    found = plain(ordered[0])[1]
    for table in ordered[1:]:
        if len(found) == 1 and 0 in found:
            return {0: 1}
        found = plain(common_table(frame, found, table))[1]
    return found


def by_values(frame, p, q, count):
    """The greatest common divisor of tables in the first count letters from one of their values; or None.

    A letter is given a great integer. What both values have in common is written with this
    integer as its base; if that divides both, and the integer is above twice the least of
    the highest coefficients, it is the greatest common divisor.
    """
    while count and max(max(p), max(q)) >> ((count - 1) * frame.width) == 0:
        count -= 1
    if count == 0:
        return {0: gcd(p[0], q[0])}
    left, p = plain(p)
    right, q = plain(q)
    shift = (count - 1) * frame.width
    first, second = max(p) >> shift, max(q) >> shift
    worth = 2 * min(height(p), height(q)) + 29
    for _ in range(TRIES):
        if worth.bit_length() * max(first, second) > MOST_BITS:
            return None
        common = by_two_values(frame, valued(p, shift, worth), valued(q, shift, worth), count - 1)
        if common is None:
            return None
        found = written(common, shift, worth, min(first, second))
        if found is not None and divides_both(frame, found, p, q):
            content = gcd(left, right)
            return {key: n * content for key, n in found.items()}
        worth = worth * 73794 // 27011
    return None


def by_two_values(frame, a, b, count):
    """by_values for two tables, not both empty: a value may be 0."""
    if not a:
        return b
    if not b:
        return a
    return by_values(frame, a, b, count)


def height(table):
    """The highest amount of a coefficient."""
    return max([abs(n) for n in table.values()])


def valued(table, shift, worth):
    """The table with the integer worth for its highest letter."""
    top = max(table) >> shift
    powers = [1]
    for _ in range(top):
        powers.append(powers[-1] * worth)
    found = {}
    for key, n in table.items():
        e = key >> shift
        at = key - (e << shift)
        found[at] = found.get(at, 0) + n * powers[e]
    return {key: n for key, n in found.items() if n}


def written(table, shift, worth, top):
    """The table without content whose value is alike the given one; None if its degree is above top."""
    found = {}
    half = worth // 2
    for key, n in table.items():
        left = n
        e = 0
        while left:
            digit = left % worth
            if digit > half:
                digit -= worth
            if digit:
                if e > top:
                    return None
                found[key + (e << shift)] = digit
            left = (left - digit) // worth
            e += 1
    return plain(found)[1]


def divides_both(frame, found, p, q):
    """Whether a table divides both others."""
    return quotient_table(frame, p, found) is not None and quotient_table(frame, q, found) is not None


def by_remainders(frame, p, q, field):
    """The greatest common divisor of two tables by remainders in the letter of a field."""
    a, b = common_part(frame, p, field), common_part(frame, q, field)
    low = common_table(frame, a, b)
    first, second = quotient_table(frame, p, a), quotient_table(frame, q, b)
    while True:
        rest = remainder_table(frame, first, second, field)
        if not rest:
            return product_table(low, second)
        rest = plain(rest)[1]
        rest = quotient_table(frame, rest, common_part(frame, rest, field))
        first, second = second, rest
        if len(rest) == 1:
            return low


def common_part(frame, table, field):
    """The greatest common divisor of the coefficients of a table by the letter of a field."""
    return common_of_all(frame, list(parts_by(frame, table, field).values()))


def remainder_table(frame, p, q, field):
    """A pseudo-remainder of p by q in the letter of the field."""
    shift = field * frame.width
    parts = parts_by(frame, q, field)
    degree = max(parts)
    lead = list(parts[degree].items())
    tail = [(key, n) for key, n in q.items() if (key >> shift) & frame.mask != degree]
    rest = p
    while rest:
        parts = parts_by(frame, rest, field)
        top = max(parts)
        if top < degree:
            return rest
        upper = [(key, -n) for key, n in parts[top].items()]
        lower = [(key, n) for key, n in rest.items() if (key >> shift) & frame.mask != top]
        found = integer_product(lead, lower)
        for key, n in integer_product(upper, tail).items():
            at = key + ((top - degree) << shift)
            found[at] = found.get(at, 0) + n
        rest = {key: n for key, n in found.items() if n}
        if len(rest) > MOST_TERMS:
            raise TooMany()
    return rest
