"""Parts of polynomials that are easy to find, and letters' least degrees."""

from math import isqrt

from ratesay.polynomials import (
    as_number,
    coefficients,
    common_divisor,
    degree,
    joined,
    less,
    letters_of,
    number,
    partial,
    plus,
    primitive,
    quotient,
    scaled,
    times,
)

# Rational roots are looked for among the quotients of divisors of integers up to this.
MOST_ROOT = 100000


def root_of_number(f):
    """The polynomial of a fraction whose square is f, or None."""
    n, d = f
    if n < 0 or isqrt(n) * isqrt(n) != n or isqrt(d) * isqrt(d) != d:
        return None
    return number((isqrt(n), isqrt(d)))


def square_root(p):
    """A polynomial whose square is p, or None."""
    f = as_number(p)
    if f is not None:
        return root_of_number(f)
    v = letters_of(p)[-1]
    parts = coefficients(p, v)
    top = len(parts) - 1
    if top & 1:
        return None
    half = top // 2
    lead = square_root(parts[top])
    if lead is None:
        return None
    found = [() for _ in range(half + 1)]
    found[half] = lead
    for k in range(half - 1, -1, -1):
        rest = parts[half + k]
        for i in range(k + 1, half):
            rest = less(rest, times(found[i], found[half + k - i]))
        found[k] = quotient(rest, scaled(lead, (2, 1)))
        if found[k] is None:
            return None
    root = joined(tuple(found), v)
    return root if times(root, root) == p else None


def content_by(p, v):
    """The greatest common divisor of the coefficients of p by v."""
    found = ()
    for c in sorted(coefficients(p, v), key=len):
        found = common_divisor(found, c)
        if as_number(found) == (1, 1):
            return found
    return found


def easiest_letter(p):
    """The letter of p in which its degree is least."""
    return min([(degree(p, v), v) for v in letters_of(p)])[1]


def factors_of(p):
    """Different primitive polynomials with letters that together divide what p divides, and the other way.

    They are irreducible as far as that is easily found.
    """
    found = {}
    waiting = [primitive(p)[1]]
    while waiting:
        q = waiting.pop()
        if as_number(q) is not None:
            continue
        pieces = pieces_of(q)
        if len(pieces) == 1:
            found[pieces[0]] = True
        else:
            waiting.extend(pieces)
    return sorted(list(found), key=len)


def pieces_of(p):
    """A list of polynomials that p has as factors; of one alone if none is found."""
    low = lowest_exponents(p)
    if low and p[1:]:
        letters = [((((v, 1),), (1, 1)),) for v in low]
        return [*letters, without_letters(p, low)]
    if low:
        return [((((v, 1),), (1, 1)),) for v in low]
    v = easiest_letter(p)
    top = degree(p, v)
    content = content_by(p, v)
    if as_number(content) is None:
        return [content, primitive(quotient(p, content))[1]]
    if top == 1:
        return [p]
    if top == 2:
        return pieces_of_square(p, v)
    for w in letters_of(p):
        content = content_by(p, w)
        if as_number(content) is None:
            return [content, primitive(quotient(p, content))[1]]
    common = common_divisor(p, partial(p, v))
    if as_number(common) is None:
        return [common, without(quotient(p, common), common)]
    if len(letters_of(p)) == 1:
        return pieces_by_roots(p, v)
    return [p]


def lowest_exponents(p):
    """The dict from the letters that divide p to the highest exponents with which they do."""
    found = {v: e for v, e in p[0][0]}
    for monomial, _ in p[1:]:
        here = {v: e for v, e in monomial}
        found = {v: min(e, here[v]) for v, e in found.items() if v in here}
    return found


def without_letters(p, low):
    """p divided by letters with exponents."""
    rows = []
    for monomial, f in p:
        left = [(v, e - low.get(v, 0)) for v, e in monomial]
        rows.append((tuple([(v, e) for v, e in left if e]), f))
    return tuple(sorted(rows))


def is_surely_prime(p):
    """Whether a factor that was found surely has no factors: there is a letter of a degree up to 2."""
    return degree(p, easiest_letter(p)) <= 2


def without(p, q):
    """p divided by what it has in common with q, as often as it goes."""
    found = p
    common = common_divisor(found, q)
    while as_number(common) is None:
        found = quotient(found, common)
        common = common_divisor(found, common)
    return primitive(found)[1]


def pieces_of_square(p, v):
    """The factors of p, of the degree 2 in v and without a factor that lacks v."""
    c, b, a = coefficients(p, v)
    root = square_root(less(times(b, b), scaled(times(a, c), (4, 1))))
    if root is None:
        return [p]
    twice = scaled(a, (2, 1))
    found = []
    for low in (less(b, root), plus(b, root)):
        whole = primitive(joined((low, twice), v))[1]
        found.append(primitive(quotient(whole, content_by(whole, v)))[1])
    if found[0] == found[1]:
        return [found[0]]
    return found


def divisors_of(n):
    """The divisors, from 1 on, of an integer from 1 on."""
    found = []
    for k in range(1, isqrt(n) + 1):
        if int(n) - n // k * k == 0:
            found.append(k)
            found.append(n // k)
    return found


def pieces_by_roots(p, v):
    """A factor of the degree 1 of p, which has the letter v alone, and the rest of p; p if there is none."""
    parts = [c[0][1][0] if c else 0 for c in coefficients(p, v)]
    first, last = abs(parts[0]), abs(parts[-1])
    if first > MOST_ROOT or last > MOST_ROOT:
        return [p]
    for d in divisors_of(last):
        for n in divisors_of(first):
            for sign in (n, -n):
                if is_root(parts, sign, d):
                    factor = primitive(joined((number((-sign, 1)), number((d, 1))), v))[1]
                    return [factor, primitive(quotient(p, factor))[1]]
    return [p]


def is_root(parts, n, d):
    """Whether the polynomial with integers as coefficients, from the lowest on, has the root n / d."""
    total = 0
    scale = 1
    for c in reversed(parts):
        total = total * n + c * scale
        scale *= d
    return total == 0
