"""Rates of polynomials."""

from ratesay.errors import BadNumber, BadPolynomial
from ratesay.forms import is_count
from ratesay.packing import Frame, from_integers, from_parts, integer_rows, note_letters, small_scale
from ratesay.polynomials import is_polynomial

MOST_RATES = 12


def rate(p):
    """The rate of a polynomial."""
    if not is_polynomial(p):
        raise BadPolynomial()
    return next_rate(p)


def rates(p, n):
    """The tuple (p, p', .., the n-th rate)."""
    if not is_polynomial(p):
        raise BadPolynomial()
    if not is_count(n, 0) or n > MOST_RATES:
        raise BadNumber(n)
    found = [p]
    for _ in range(n):
        found.append(next_rate(found[-1]))
    return tuple(found)


def next_rate(p):
    """The rate of what surely is a polynomial."""
    frame = rate_frame(p)
    scale = small_scale(p)
    if scale:
        return from_integers(frame, rate_of_integers(frame, integer_rows(frame, p, scale)), scale)
    return from_parts(frame, rate_of_fractions(frame, p))


def rate_frame(p):
    """A frame with room for the letters of p and their rates."""
    seen = {}
    top = note_letters(p, seen)
    for name, k in list(seen):
        seen[(name, k + 1)] = True
    return Frame(sorted(seen), top + 1)


def offsets(frame, key):
    """The pairs (exponent, offset of a letter's rate) of the letters of a packed monomial."""
    found = []
    for at, e in frame.fields(key):
        name, k = frame.letters[at]
        found.append((e, (1 << frame.shifts[(name, k + 1)]) - (1 << (at * frame.width))))
    return found


def rate_of_integers(frame, rows):
    """The dict from packed monomials to integers of the rate of a list of (key, integer)."""
    table = {}
    for key, n in rows:
        for e, offset in offsets(frame, key):
            at = key + offset
            table[at] = table.get(at, 0) + n * e
    return table


def rate_of_fractions(frame, p):
    """The dict from packed monomials to lists of the parts of coefficients of the rate of p."""
    table = {}
    for monomial, f in p:
        key = frame.packed(monomial)
        for e, offset in offsets(frame, key):
            table.setdefault(key + offset, []).append((f[0] * e, f[1]))
    return table
