"""Polynomials of one letter modulo a prime: quick signs that nothing divides or is common.

All letters but one get fixed values modulo the prime. What these images lack, the
polynomials themselves lack; nothing is told the other way.
"""

MODULUS = 2305843009213693951
HIGHEST = 400


def residue_power(base, e):
    """base to the power e modulo the prime."""
    found = 1
    square = base
    left = e
    while left:
        if left & 1:
            found = found * square % MODULUS
        square = square * square % MODULUS
        left = left >> 1
    return found


def residue_inverse(n):
    """1 / n modulo the prime, n not 0 there."""
    return residue_power(n, MODULUS - 2)


def letter_residue(k):
    """The fixed value of the letter of field k: far from small numbers and their quotients."""
    base = (k + 7) * 1140071481932319485 % MODULUS
    return base * base % MODULUS * base % MODULUS + 1


def residues(rows):
    """The (key, residue) of a list of (key, fraction); None if a denominator is 0 modulo the prime."""
    found = []
    for key, f in rows:
        if f[1] == 1:
            found.append((key, f[0] % MODULUS))
        elif f[1] % MODULUS == 0:
            return None
        else:
            found.append((key, f[0] % MODULUS * residue_inverse(f[1] % MODULUS) % MODULUS))
    return found


def image(frame, rows, field):
    """The coefficients by the letter of the field, the others at their values; None if its degree is too high."""
    sums = {}
    powers = {}
    for key, n in rows:
        at = 0
        worth = n % MODULUS
        for k, e in frame.fields(key):
            if k == field:
                at = e
            else:
                if (k, e) not in powers:
                    powers[(k, e)] = residue_power(letter_residue(k), e)
                worth = worth * powers[(k, e)] % MODULUS
        sums[at] = (sums.get(at, 0) + worth) % MODULUS
    top = max(sums, default=0)
    if top > HIGHEST:
        return None
    return trimmed([sums.get(k, 0) for k in range(top + 1)])


def trimmed(cs):
    """The list without the zeros at its end."""
    size = len(cs)
    while size and cs[size - 1] == 0:
        size -= 1
    return cs[:size]


def remainder(a, b):
    """The remainder of the list a by the list b, which is not empty."""
    rest = list(a)
    turn = residue_inverse(b[-1])
    while len(rest) >= len(b):
        factor = rest[-1] * turn % MODULUS
        start = len(rest) - len(b)
        for k, c in enumerate(b):
            rest[start + k] = (rest[start + k] - factor * c) % MODULUS
        rest = trimmed(rest)
    return rest


def common_degree(a, b):
    """The degree of the greatest common divisor of two lists, not both empty."""
    while b:
        a, b = b, remainder(a, b)
    return len(a) - 1


def may_divide(frame, divisor, rows, field):
    """False only if the divisor surely divides not; both are lists of (key, residue)."""
    b = image(frame, divisor, field)
    if not b:
        return True
    a = image(frame, rows, field)
    if a is None:
        return True
    return not remainder(a, b)
