"""Numbers of towers: rests, products, inverses, and towers that fall into parts."""

from ratesay.packing import sum_of_products
from ratesay.polynomials import UNIT, coefficients, degree, is_polynomial, joined, less, letters_of, partial, times
from ratesay.ratios import inverted

ROOT = "root"


def root_letter(i):
    """The i-th root letter."""
    return (ROOT, i)


def is_rooted(p, count):
    """Whether p has no letters but the first so many root letters."""
    for name, k in letters_of(p):
        if name != ROOT or k >= count:
            return False
    return True


def is_tower_value(value):
    """Whether any value is a tower."""
    if type(value) is not tuple:
        return False
    tops = []
    for i, p in enumerate(value):
        if not is_polynomial(p) or not is_rooted(p, i + 1):
            return False
        parts = coefficients(p, root_letter(i))
        if len(parts) < 2 or parts[-1] != UNIT:
            return False
        for j, top in enumerate(tops):
            if degree(p, root_letter(j)) >= top:
                return False
        tops.append(len(parts) - 1)
    return True


def is_number_in(tower, u):
    """Whether any value is a number of the tower."""
    if not is_polynomial(u) or not is_rooted(u, len(tower)):
        return False
    for i, p in enumerate(tower):
        if degree(u, root_letter(i)) >= degree(p, root_letter(i)):
            return False
    return True


def tower_degree(tower):
    """The degree of a tower."""
    found = 1
    for i, p in enumerate(tower):
        found *= degree(p, root_letter(i))
    return found


def rest(tower, p):
    """The number of the tower that p, a polynomial in its root letters, comes to."""
    top = len(tower)
    while top and degree(p, root_letter(top - 1)) < 1:
        top -= 1
    if top == 0:
        return p
    v = root_letter(top - 1)
    lower = tower[:top - 1]
    divisor = coefficients(tower[top - 1], v)
    d = len(divisor) - 1
    parts = list(coefficients(p, v))
    for k in range(len(parts) - 1, d - 1, -1):
        c = rest(lower, parts[k])
        if c:
            for j in range(d):
                if divisor[j]:
                    parts[k - d + j] = less(parts[k - d + j], times(c, divisor[j]))
    return joined(tuple([rest(lower, c) for c in parts[:d]]), v)


def product(tower, u, w):
    """The product of two numbers."""
    return rest(tower, times(u, w))


def product_sum(tower, pairs):
    """The number that a sum of products comes to."""
    return rest(tower, sum_of_products(pairs))


def highest_root(u):
    """The place of the highest root letter of u, -1 for a fraction."""
    letters = letters_of(u)
    return letters[-1][1] if letters else -1


def with_member(tower, i, p):
    """The tower with p as its member i, those above it reduced."""
    found = list(tower[:i])
    found.append(p)
    for k in range(i + 1, len(tower)):
        found.append(reduced_member(tuple(found), tower[k], k))
    return tuple(found)


def reduced_member(lower, p, k):
    """The member k of a tower with its coefficients reduced by the lower members."""
    v = root_letter(k)
    return joined(tuple([rest(lower, c) for c in coefficients(p, v)]), v)


def with_lower(tower, lower):
    """The tower with other lower members, those above them reduced."""
    found = list(lower)
    for k in range(len(lower), len(tower)):
        found.append(reduced_member(tuple(found), tower[k], k))
    return tuple(found)


def parts(tower, u):
    """The list of the pairs (tower_k, inverse of u there, or None) for a number u of a square-free tower."""
    u = rest(tower, u)
    if not u:
        return [(tower, None)]
    i = highest_root(u)
    if i < 0:
        return [(tower, ((u[0][0], inverted(u[0][1])),))]
    v = root_letter(i)
    lower = tower[:i]
    a, b, k, before = tower[i], u, UNIT, ()
    while True:
        found = made_monic(lower, b, v)
        if type(found) is list:
            return parts_below(tower, u, found)
        b, turn = found
        k = rest(tower, times(k, turn))
        if degree(b, v) < 1:
            return [(tower, k)]
        q, c = monic_quotient(lower, a, b, v)
        if not c:
            whole = with_member(tower, i, b)
            other = with_member(tower, i, monic_quotient(lower, tower[i], b, v)[0])
            return [(whole, None), *parts(other, u)]
        a, b, before, k = b, c, k, less(before, times(q, k))


def made_monic(lower, b, v):
    """The pair (b with the highest coefficient 1, the inverse of that), or a list of lower towers to part into."""
    lead = coefficients(b, v)[-1]
    found = parts(lower, lead)
    if len(found) > 1:
        return [part for part, _ in found]
    turn = found[0][1]
    return (rest(lower, times(b, turn)), turn)


def parts_below(tower, u, lowers):
    """The parts of a tower whose lower members fall into parts."""
    found = []
    for lower in lowers:
        found.extend(parts(with_lower(tower, lower), u))
    return found


def monic_quotient(lower, a, b, v):
    """The pair (q, c) with a = q b + c over the lower tower, b with the highest coefficient 1."""
    d = degree(b, v)
    divisor = coefficients(b, v)
    rows = [rest(lower, c) for c in coefficients(a, v)]
    found = [() for _ in range(max(0, len(rows) - d))]
    for k in range(len(rows) - 1, d - 1, -1):
        c = rest(lower, rows[k])
        found[k - d] = c
        if c:
            for j in range(d):
                rows[k - d + j] = less(rows[k - d + j], times(c, divisor[j]))
    low = tuple([rest(lower, c) for c in rows[:d]])
    return (joined(tuple(found), v), joined(low, v))


def unit_part(tower, u):
    """The pair (tower_k, inverse) of a part of least degree of a square-free tower in which u is a unit, or None."""
    found = [(tower_degree(part), k) for k, (part, turn) in enumerate(parts(tower, u)) if turn is not None]
    if not found:
        return None
    return parts(tower, u)[min(found)[1]]


def first_multiple(tower):
    """The least place at which the partial derivative of a member is no unit, or None."""
    for i, p in enumerate(tower):
        v = root_letter(i)
        if not are_prime(tower[:i], p, partial(p, v), v):
            return i
    return None


def are_prime(lower, a, b, v):
    """Whether two polynomials of a letter over a square-free lower tower have nothing in common at any zero."""
    a, b = joined(tuple([rest(lower, c) for c in coefficients(a, v)]), v), rest_by(lower, b, v)
    while True:
        if not b:
            return degree(a, v) < 1
        found = made_monic(lower, b, v)
        if type(found) is list:
            for part in found:
                if not are_prime(part, a, b, v):
                    return False
            return True
        b = found[0]
        if degree(b, v) < 1:
            return True
        a, b = b, monic_quotient(lower, a, b, v)[1]


def rest_by(lower, b, v):
    """A polynomial of v with its coefficients reduced by a lower tower."""
    return joined(tuple([rest(lower, c) for c in coefficients(b, v)]), v)
