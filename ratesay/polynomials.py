"""Polynomials in letters, with fractions as coefficients: tuples of (monomial, fraction), ascending."""

from ratesay.collecting import collected, integers_of, merged, powered, primitive_parts
from ratesay.commons import common_table
from ratesay.dividing import exact
from ratesay.errors import BadDivisor, TooGreat
from ratesay.forms import is_count, is_fraction, is_name, is_pair
from ratesay.packing import frame_of, from_integers, sum_of_products
from ratesay.ratios import ONE, ZERO, capped_power, inverted, multiplied, negated, reduced

UNIT = (((), (1, 1)),)
MOST_PAIRS = 40000


def is_letter(value):
    """Whether any value is a letter (name, k), k from 0 on."""
    return is_pair(value) and is_name(value[0]) and is_count(value[1], 0)


def is_monomial(value):
    """Whether any value is a monomial."""
    if type(value) is not tuple:
        return False
    last = None
    for pair in value:
        if not is_pair(pair) or not is_letter(pair[0]) or not is_count(pair[1], 1):
            return False
        if last is not None and not last < pair[0]:
            return False
        last = pair[0]
    return True


def is_polynomial(value):
    """Whether any value is a polynomial."""
    if type(value) is not tuple:
        return False
    last = None
    for pair in value:
        if not is_pair(pair) or not is_monomial(pair[0]) or not is_fraction(pair[1]) or pair[1] == ZERO:
            return False
        if last is not None and not last < pair[0]:
            return False
        last = pair[0]
    return True


def number(f):
    """The polynomial of a fraction."""
    if f == ZERO:
        return ()
    return (((), f),)


def letter(name, k):
    """The polynomial of the letter (name, k)."""
    return (((((name, k), 1),), ONE),)


def as_number(p):
    """The fraction of a polynomial without letters, None for the others."""
    if not p:
        return ZERO
    if len(p) == 1 and not p[0][0]:
        return p[0][1]
    return None


def letters_of(p):
    """The letters of p, ascending."""
    seen = {}
    for monomial, _ in p:
        for v, _ in monomial:
            seen[v] = True
    return tuple(sorted(seen))


def names_of(p):
    """The names of the letters of p, ascending."""
    seen = {}
    for monomial, _ in p:
        for v, _ in monomial:
            seen[v[0]] = True
    return tuple(sorted(seen))


def plus(p, q):
    """The sum."""
    if not p:
        return q
    if not q:
        return p
    return merged(p, q)


def less(p, q):
    """The difference p - q."""
    return plus(p, tuple([(monomial, negated(f)) for monomial, f in q]))


def times(p, q):
    """The product."""
    if len(p) > len(q):
        p, q = q, p
    if not p:
        return ()
    if len(p) == 1 and not p[0][0]:
        return scaled(q, p[0][1])
    return sum_of_products([(p, q)])


def scaled(p, f):
    """The product of p and a fraction."""
    if f == ONE:
        return p
    if f == ZERO:
        return ()
    return tuple([(monomial, multiplied(g, f)) for monomial, g in p])


def power(p, e):
    """p to the power e."""
    if capped_power(len(p), e, MOST_PAIRS) > MOST_PAIRS:
        raise TooGreat("power")
    return raised(p, e)


def raised(p, e):
    """p to the power e, whatever its size."""
    if e == 0:
        return UNIT
    if len(p) <= 1:
        return powered(p, e)
    found = p
    for _ in range(e - 1):
        found = times(found, p)
    return found


def put(p, rows):
    """p with polynomials for some letters, all at the same time; rows has pairs (letter, polynomial)."""
    table = {v: q for v, q in rows}
    check_put(p, table)
    powers = {}
    parts = []
    for monomial, f in p:
        kept = tuple([(v, e) for v, e in monomial if v not in table])
        product = ((kept, f),)
        for v, e in monomial:
            if v in table:
                if (v, e) not in powers:
                    powers[(v, e)] = raised(table[v], e)
                product = times(product, powers[(v, e)])
        parts.extend(product)
    return collected(parts)


def check_put(p, table):
    """Raises TooGreat if the putting in has too many products of pairs."""
    total = 0
    for monomial, _ in p:
        count = 1
        for v, e in monomial:
            if v in table:
                count *= capped_power(len(table[v]), e, MOST_PAIRS)
        total += count
    if total > MOST_PAIRS:
        raise TooGreat("put")


def alike(p, q):
    """Whether p is q times a fraction other than 0."""
    if len(p) != len(q):
        return False
    for k, (monomial, f) in enumerate(p):
        if q[k][0] != monomial:
            return False
        first, second = p[0][1], q[0][1]
        g = q[k][1]
        if f[0] * g[1] * second[0] * first[1] != g[0] * f[1] * first[0] * second[1]:
            return False
    return True


def degree(p, v):
    """The degree of p in the letter v, -1 for 0."""
    top = 0 if p else -1
    for monomial, _ in p:
        for w, e in monomial:
            if w == v and e > top:
                top = e
    return top


def coefficients(p, v):
    """The coefficients of p by the letter v, from that of v to the power 0 on."""
    parts = {}
    for monomial, f in p:
        at = 0
        rest = monomial
        for k, (w, e) in enumerate(monomial):
            if w == v:
                at = e
                rest = monomial[:k] + monomial[k + 1:]
        parts.setdefault(at, []).append((rest, f))
    top = max(parts, default=-1)
    return tuple([tuple(sorted(parts.get(k, []))) for k in range(top + 1)])


def joined(cs, v):
    """The polynomial whose coefficients by the letter v are the polynomials cs."""
    found = []
    for k, c in enumerate(cs):
        for monomial, f in c:
            found.append((with_letter(monomial, v, k), f))
    return tuple(sorted(found))


def with_letter(monomial, v, e):
    """The monomial, which lacks the letter v, times v to the power e."""
    if e == 0:
        return monomial
    return tuple(sorted(monomial + ((v, e),)))


def partial(p, v):
    """The partial derivative of p by the letter v."""
    found = []
    for monomial, f in p:
        for k, (w, e) in enumerate(monomial):
            if w == v:
                middle = ((w, e - 1),) if e > 1 else ()
                found.append((monomial[:k] + middle + monomial[k + 1:], reduced(f[0] * e, f[1])))
    return tuple(sorted(found))


def quotient(p, q):
    """The polynomial r with q r = p, None if there is none."""
    if not q:
        raise BadDivisor()
    if not p:
        return ()
    if len(q) == 1 and not q[0][0]:
        return scaled(p, inverted(q[0][1]))
    pairs = exact(p, q)
    if pairs is None:
        return None
    return tuple(sorted(pairs))


def pseudo(g, p, v):
    """The pseudo-quotient (k, q, r) of g by p in the letter v: I to the power k, times g, is q p + r."""
    d = degree(p, v)
    if d < 1:
        raise BadDivisor()
    lead = coefficients(p, v)[d]
    k = 0
    q = ()
    r = g
    top = degree(r, v)
    while top >= d:
        c = coefficients(r, v)[top]
        factor = quotient(c, lead)
        if factor is None:
            # No pseudo-quotient of r has k = 0, so multiplying just here leads to the least k.
            k += 1
            q = times(lead, q)
            r = times(lead, r)
            factor = c
        factor = tuple(sorted([(with_letter(monomial, v, top - d), f) for monomial, f in factor]))
        q = plus(q, factor)
        r = less(r, times(factor, p))
        top = degree(r, v)
    return (k, q, r)


def primitive(p):
    """The pair (content, primitive polynomial) of p."""
    if not p:
        return (ZERO, ())
    return primitive_parts(p)


def common_divisor(p, q):
    """The greatest common divisor, primitive."""
    if not p or not q:
        return primitive(plus(p, q))[1]
    frame = frame_of(p, q)
    table = common_table(frame, integers_of(frame, p), integers_of(frame, q))
    return primitive(from_integers(frame, table, 1))[1]


def square_free(p):
    """The square-free part of p."""
    if not p:
        return ()
    common = p
    for v in letters_of(p):
        common = common_divisor(common, partial(p, v))
    return primitive(quotient(p, common))[1]


def square_free_by(p, v):
    """The square-free part of p by the letter v."""
    if degree(p, v) < 1:
        raise BadDivisor()
    content = ()
    for c in coefficients(p, v):
        content = common_divisor(content, c)
    with_v = quotient(p, content)
    return primitive(quotient(with_v, common_divisor(with_v, partial(with_v, v))))[1]
