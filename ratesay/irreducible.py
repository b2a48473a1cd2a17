"""Whether a polynomial surely is irreducible: by its values modulo a prime, all letters but one having fixed values."""

from ratesay.linear import inverse_modulo, turned
from ratesay.polynomials import coefficients, degree, letters_of
from ratesay.rows import divided, less_product, root_of, trimmed
from ratesay.samples import fixed_value

PRIME = 2147483647
# So many images are tried; of a degree d about each d-th is irreducible if one is.
TRIES = 24


def times_rows(a, b, m, p):
    """The product of two polynomials of one letter, modulo a third one."""
    found = [0 for _ in range(max(0, len(a) + len(b) - 1))]
    for i, n in enumerate(a):
        for k, other in enumerate(b):
            found[i + k] = (found[i + k] + n * other) % p
    return divided(trimmed(found), m, p)[1] if len(found) >= len(m) else trimmed(found)


def power_of(a, e, m, p):
    """A polynomial of one letter to the power e, modulo another one."""
    found = [1]
    square = a
    left = e
    while left:
        if left & 1:
            found = times_rows(found, square, m, p)
        square = times_rows(square, square, m, p)
        left = left >> 1
    return found


def is_coprime(a, b, p):
    """Whether two polynomials of one letter have no common factor."""
    while b:
        a, b = b, divided(a, b, p)[1]
    return len(a) == 1


def is_irreducible(row, p):
    """Whether a polynomial of one letter, of a degree from 1 on, is irreducible modulo a prime."""
    turn = inverse_modulo(row[-1], p)
    row = [n * turn % p for n in row]
    power = [0, 1]
    for _ in range((len(row) - 1) // 2):
        power = power_of(power, p, row, p)
        # All factors of the degrees so far divide this.
        if not is_coprime(row, less_product(power, [1], [0, 1], p), p):
            return False
    return True


def value_at(q, table):
    """The value of a polynomial, a dict telling those of its letters; None if some letter is not told."""
    total = 0
    for monomial, (n, d) in q:
        n = n * turned(d, PRIME)
        for w, e in monomial:
            if w not in table:
                return None
            for _ in range(e):
                n = n * table[w] % PRIME
        total += n
    return total % PRIME


def image(p, v, table):
    """The image of p as a polynomial of one letter, a dict telling the values of the others, or None."""
    found = [value_at(c, table) for c in coefficients(p, v)]
    return None if None in found or found[-1] == 0 else found


def is_seen_irreducible(p, v):
    """Whether p, of which no factor lacks the letter v, is seen to be irreducible; False tells nothing."""
    return is_seen_least(p, v, [])


def is_seen_least(p, v, lower):
    """Whether no relation of v has a lower degree than p, seen at some points; False tells nothing.

    lower are the pairs (leader, equation) of the other letters that are not free, ascending.
    """
    if degree(p, v) == 1:
        return True
    led = [w for w, _ in lower]
    letters = [w for w in letters_of(p) if w != v]
    for _, q in lower:
        letters.extend([w for w in letters_of(q) if w not in letters])
    for seed in range(TRIES):
        table = {}
        for place, w in enumerate(letters):
            if w not in led:
                table[w] = fixed_value(seed, place, 2, PRIME)
        row = image(p, v, table) if has_roots(lower, table, seed) else None
        if row is not None and is_irreducible(row, PRIME):
            return True
    return False


def has_roots(lower, table, seed):
    """Whether values of leaders are found at which their equations are 0; they are put into the dict of values."""
    for k, (w, q) in enumerate(lower):
        row = image(q, w, table)
        # Each pair of roots is as likely as any other one.
        root = None if row is None else root_of(row, PRIME, seed >> (k & 3))
        if root is None:
            return False
        table[w] = root
    return True
